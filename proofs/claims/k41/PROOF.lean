import PyProof.Rows.All
import Wide.All
import OpenK.AllK
import Wide.FinOn
import HandS.ForMost
import HandS.ForExc
import HandS.IsInst
import HandS.FStr
import HandS.TryMany
import HandS.ExcInit
import HandS.ExcField
import HandS.ExcIs
import HandS.Codes
import HandS.Defaults
import HandS.SortInts
import KE.KTypeName
import HandS.CallSlots
import HandS.Lambda
import HandS.EndTab
import HandS.Zip
import HandS.WrittenGet
import HandS.TupAny
import HandS.RevRange
import HandS.Rev
import KE.KNestM
import HandS.EndOwn
import KE.KEqSeq
import HandS.FStrTup
import HandS.More
import HandS.SortKw
import KE.DataMinMax
import HandS.DictTup
import HandS.ListItems
import HandS.Small
import HandS.Style
import PyProof.DictMoreH
import OpenK.KOps
import HandS.MakeKwOnly
import HandS.TupLe
import HandS.TupSets
import KE.KDictCopyH
import HandS.Conv
import HandS.TryOnly
import HandS.SortRule
import HandS.OwnEq
import PyProof.InstNe
import HandS.Nested
import KE.KMinKey
import KE.SortKeyHeap
import KE.GoesComp
import PySem.Challenge.RW_reedtapes_k41_whole_merged_tracks_part_a
set_option Elab.async false
set_option linter.all false
set_option maxRecDepth 100000
set_option maxHeartbeats 4000000
namespace Rt
open PySem PySem.Spec PyProof.Rows L2
/-! ### heaps: what was known stays known -/
def Ex (H H' : Hp) : Prop := ∀ b o, H b = some o → H' b = some o
theorem Ex.refl (H : Hp) : Ex H H := fun _ _ h => h
theorem Ex.trans {H H1 H2 : Hp} (a : Ex H H1) (b : Ex H1 H2) : Ex H H2 := fun c o h => b c o (a c o h)
theorem Ex.to {H H' : Hp} {b : Addr} {o : HO} (e : Ex H H') (h : H b = some o) : H' b = some o := e b o h
theorem Ex.seq {K : PySem.W.Frag} {H H' : Hp} {a : Addr} {xs : List V} (e : Ex H H') (h : SqL K H a xs) : SqL K H' a xs := by
  rcases h with (h | ⟨o, h⟩) | h
  · exact .inl (.inl (e _ _ h))
  · exact .inl (.inr ⟨o, e _ _ h⟩)
  · exact .inr h
theorem Ex.new {H : Hp} {p : Addr} {o : HO} (h : H p = none) : Ex H (upd H p o) := fun a u e => by
  rw [upd_ne (ne_of_none e h)]
  exact e
theorem Ex.free {H H' : Hp} {p : Addr} (e : Ex H H') (h : H' p = none) : H p = none := by
  cases q : H p with
  | none => rfl
  | some o =>
    rw [e p o q] at h
    cases h
/-- a step of the heap: H0 what is settled, H all; m: what may be turned -/
structure Go (m : Addr → Prop) (E0 E H0 H : Hp) : Prop where
  up : Ex E0 H0
  inn : Ex H0 H
  new : ∀ b, E b ≠ none → E0 b = none → H0 b = none
  keep : ∀ b o, E b = some o → ¬ m b → H b = some o
  there : ∀ b, E b ≠ none → H b ≠ none
theorem Go.refl {m : Addr → Prop} {H0 H : Hp} (e : Ex H0 H) : Go m H0 H H0 H := ⟨Ex.refl _, e, fun _ _ h => h, fun _ _ h _ => h, fun _ h => h⟩
theorem Go.trans {m m' : Addr → Prop} {E0 E F0 F G0 G : Hp} (a : Go m E0 E F0 F) (b : Go m' F0 F G0 G) (hm : ∀ x, E x ≠ none → m' x → m x) : Go m E0 E G0 G where
  up := a.up.trans b.up
  inn := b.inn
  new := fun x h1 h2 => b.new x (a.there x h1) (a.new x h1 h2)
  keep := fun x o h n => b.keep x o (a.keep x o h n) fun z => n (hm x (by rw [h]; simp) z)
  there := fun x h => b.there x (a.there x h)
/-- the same, what may be turned being alike -/
theorem Go.then {m : Addr → Prop} {E0 E F0 F G0 G : Hp} (a : Go m E0 E F0 F) (b : Go m F0 F G0 G) : Go m E0 E G0 G := a.trans b fun _ _ h => h
/-- a new object, not settled -/
theorem Go.lay {m : Addr → Prop} {E0 E H0 H : Hp} {p : Addr} (o : HO) (a : Go m E0 E H0 H) (h : H p = none) : Go m E0 E H0 (upd H p o) where
  up := a.up
  inn := a.inn.trans (Ex.new h)
  new := a.new
  keep := fun x u q n => by
    rw [upd_ne (ne_of_none (a.keep x u q n) h)]
    exact a.keep x u q n
  there := fun x q => by
    by_cases e : x = p
    · rw [e, upd_same]; simp
    · rw [upd_ne e]; exact a.there x q
/-- a new object that is not known at the entry is turned -/
theorem Go.turn {m : Addr → Prop} {E0 E H0 H : Hp} {p : Addr} (o : HO) (a : Go m E0 E H0 H) (h : E p = none) (h0 : H0 p = none) : Go m E0 E H0 (upd H p o) where
  up := a.up
  inn := fun x u q => by
    rw [upd_ne (ne_of_none q h0)]
    exact a.inn x u q
  new := a.new
  keep := fun x u q n => by
    rw [upd_ne (ne_of_none q h)]
    exact a.keep x u q n
  there := fun x q => by
    by_cases e : x = p
    · rw [e, upd_same]; simp
    · rw [upd_ne e]; exact a.there x q
/-- what may be turned is turned -/
theorem Go.turnM {m : Addr → Prop} {E0 E H0 H : Hp} {p : Addr} (o : HO) (a : Go m E0 E H0 H) (h : m p) (h0 : H0 p = none) : Go m E0 E H0 (upd H p o) where
  up := a.up
  inn := fun x u q => by
    rw [upd_ne (ne_of_none q h0)]
    exact a.inn x u q
  new := a.new
  keep := fun x u q n => by
    have e : x ≠ p := fun z => n (z ▸ h)
    rw [upd_ne e]
    exact a.keep x u q n
  there := fun x q => by
    by_cases e : x = p
    · rw [e, upd_same]; simp
    · rw [upd_ne e]; exact a.there x q
/-- it is settled -/
theorem Go.set {m : Addr → Prop} {E0 E H0 H : Hp} {p : Addr} {o : HO} (a : Go m E0 E H0 H) (h : E p = none) (hp : H p = some o) (h0 : H0 p = none) : Go m E0 E (upd H0 p o) H where
  up := a.up.trans (Ex.new h0)
  inn := fun x u q => by
    by_cases e : x = p
    · rw [e, upd_same] at q
      rw [e, hp, q]
    · rw [upd_ne e] at q
      exact a.inn x u q
  new := fun x q r => by
    have e : x ≠ p := fun z => q (z ▸ h)
    rw [upd_ne e]
    exact a.new x q r
  keep := a.keep
  there := a.there
/-- a new object that is settled at once -/
theorem Go.put {m : Addr → Prop} {E0 E H0 H : Hp} {p : Addr} (o : HO) (a : Go m E0 E H0 H) (h : H p = none) : Go m E0 E (upd H0 p o) (upd H p o) := by
  have hE : E p = none := by
    cases q : E p with
    | none => rfl
    | some u => exact absurd h (a.there p (by rw [q]; simp))
  exact (a.lay o h).set hE upd_same (a.inn.free h)
theorem Go.mono {m m' : Addr → Prop} {E0 E H0 H : Hp} (a : Go m E0 E H0 H) (h : ∀ x, m x → m' x) : Go m' E0 E H0 H := ⟨a.up, a.inn, a.new, fun b o q n => a.keep b o q fun z => n (h b z), a.there⟩
/-- fresh now: fresh at the entry, and unsettled -/
theorem Go.fresh {m : Addr → Prop} {E0 E H0 H : Hp} {p : Addr} (a : Go m E0 E H0 H) (h : H p = none) : E p = none := by
  cases q : E p with
  | none => rfl
  | some u => exact absurd h (a.there p (by rw [q]; simp))
theorem Go.fresh0 {m : Addr → Prop} {E0 E H0 H : Hp} {p : Addr} (a : Go m E0 E H0 H) (h : H p = none) : H0 p = none := a.inn.free h
/-! ### the drawing's list -/
structure Dr (H0 H : Hp) (d : Addr) : Prop where
  ex : ∃ (a : Addr) (ns : List Int) (i j k l : Int), H d = some (.lst [.ref a, .int i, .int j, .int k, .int l]) ∧ H0 a = some (.lst (ns.map V.int)) ∧ 0 ≤ i ∧ 0 ≤ j ∧ 0 ≤ k ∧ k < 2000000000
  out : H0 d = none
theorem Dr.mono {H0 H H0' : Hp} {d : Addr} (x : Dr H0 H d) (e : Ex H0 H0') (n : H0' d = none) : Dr H0' H d := by
  obtain ⟨⟨a, ns, i, j, k, l, h1, h2, h3⟩, _⟩ := x
  exact ⟨⟨a, ns, i, j, k, l, h1, e _ _ h2, h3⟩, n⟩
theorem Dr.known {H0 H : Hp} {d : Addr} (x : Dr H0 H d) : H d ≠ none := by
  obtain ⟨⟨a, ns, i, j, k, l, h1, _⟩, _⟩ := x
  rw [h1]; simp
/-- a pure step leaves the drawing -/
theorem Dr.go {m : Addr → Prop} {H0 H H0' H' : Hp} {d : Addr} (x : Dr H0 H d) (g : Go m H0 H H0' H') (n : ¬ m d) : Dr H0' H' d := by
  have k := x.known
  obtain ⟨⟨a, ns, i, j, k', l, h1, h2, h3⟩, o⟩ := x
  exact ⟨⟨a, ns, i, j, k', l, g.keep _ _ h1 n, g.up _ _ h2, h3⟩, g.new d k o⟩
theorem Dr.lay {H0 H : Hp} {d p : Addr} (o : HO) (x : Dr H0 H d) (h : H p = none) : Dr H0 (upd H p o) d := by
  have k := x.known
  obtain ⟨⟨a, ns, i, j, k', l, h1, h2⟩, n⟩ := x
  exact ⟨⟨a, ns, i, j, k', l, by rw [upd_ne (ne_of_none h1 h)]; exact h1, h2⟩, n⟩
theorem Dr.turn {H0 H : Hp} {d p : Addr} (o : HO) (x : Dr H0 H d) (h : d ≠ p) : Dr H0 (upd H p o) d := by
  obtain ⟨⟨a, ns, i, j, k', l, h1, h2⟩, n⟩ := x
  exact ⟨⟨a, ns, i, j, k', l, by rw [upd_ne h]; exact h1, h2⟩, n⟩
theorem Dr.set {H0 H : Hp} {d p : Addr} (o : HO) (x : Dr H0 H d) (h0 : H0 p = none) (h : d ≠ p) : Dr (upd H0 p o) H d := x.mono (Ex.new h0) (by rw [upd_ne h]; exact x.out)
theorem Dr.ne {H0 H : Hp} {d p : Addr} (x : Dr H0 H d) (h : H p = none) : d ≠ p := fun z => x.known (z ▸ h)
theorem Ex.lay {H0 H : Hp} {p : Addr} (o : HO) (e : Ex H0 H) (h : H p = none) : Ex H0 (upd H p o) := e.trans (Ex.new h)
theorem Ex.turn {H0 H : Hp} {p : Addr} (o : HO) (e : Ex H0 H) (h : H0 p = none) : Ex H0 (upd H p o) := fun x u q => by
  rw [upd_ne (ne_of_none q h)]
  exact e x u q
theorem Ex.set {H0 H : Hp} {p : Addr} {o : HO} (e : Ex H0 H) (h : H p = some o) : Ex (upd H0 p o) H := fun x u q => by
  by_cases z : x = p
  · rw [z, upd_same] at q
    rw [z, h, q]
  · rw [upd_ne z] at q
    exact e x u q
/-- where a drawing def stands: A0, A at its entry, H0, H now -/
structure Sd (d : Addr) (A0 A H0 H : Hp) : Prop where
  go : Go (· = d) A0 A H0 H
  dr : Dr H0 H d
theorem Sd.ex {d : Addr} {A0 A H0 H : Hp} (S : Sd d A0 A H0 H) : Ex H0 H := S.go.inn
theorem Sd.here {d : Addr} {H0 H : Hp} (e : Ex H0 H) (x : Dr H0 H d) : Sd d H0 H H0 H := ⟨Go.refl e, x⟩
theorem Sd.call {d : Addr} {A0 A H0 H H0' H' : Hp} (S : Sd d A0 A H0 H) (g : Go (· = d) H0 H H0' H') (x : Dr H0' H' d) : Sd d A0 A H0' H' := ⟨S.go.then g, x⟩
theorem Sd.pure {d : Addr} {A0 A H0 H H0' H' : Hp} (S : Sd d A0 A H0 H) (g : Go (fun _ => False) H0 H H0' H') : Sd d A0 A H0' H' := ⟨S.go.trans g fun _ _ z => z.elim, S.dr.go g fun z => z⟩
theorem Sd.put {d p : Addr} {A0 A H0 H : Hp} (o : HO) (S : Sd d A0 A H0 H) (h : H p = none) : Sd d A0 A (upd H0 p o) (upd H p o) := ⟨S.go.put o h, (S.dr.lay o h).set o (S.ex.free h) (S.dr.ne h)⟩
theorem Sd.lay {d p : Addr} {A0 A H0 H : Hp} (o : HO) (S : Sd d A0 A H0 H) (h : H p = none) : Sd d A0 A H0 (upd H p o) := ⟨S.go.lay o h, S.dr.lay o h⟩
theorem Sd.turn {d p : Addr} {A0 A H0 H : Hp} (o : HO) (S : Sd d A0 A H0 H) (h : A p = none) (h0 : H0 p = none) (n : d ≠ p) : Sd d A0 A H0 (upd H p o) := ⟨S.go.turn o h h0, S.dr.turn o n⟩
theorem Sd.set {d p : Addr} {A0 A H0 H : Hp} {o : HO} (S : Sd d A0 A H0 H) (h : A p = none) (hp : H p = some o) (h0 : H0 p = none) (n : d ≠ p) : Sd d A0 A (upd H0 p o) H := ⟨S.go.set h hp h0, S.dr.set o h0 n⟩
/-! ### a def of the text, called by its name; dvs: the defaults that fill up -/
structure Def (P : Program) (w : World) (K : PySem.W.Frag) (mg : Str → Option Value) (base : Heap) (x : Str) (k : Nat) (sp : Sp) (dvs : List V := []) : Prop where
  ex : ∃ (f : Addr) (fd : FuncData) (ps : List Str) (ds : List Value), mg x = some (.ref f) ∧ FnOk P w K mg base CX0 k f fd ps sp ∧ PySem.W.keepIn K (.ref f) = true ∧ Binds K fd ps ds ∧ Vals dvs ds
section
variable {X : Cx} {x : Str} {p pos : Pos} {e : Expr} {es : List Expr} {t : TA} {k : Nat} {sp : Sp} {dvs : List V}
theorem pe_d (D : Def X.prog X.w X.K X.mg X.base x k sp dvs) (hr : Room k X.A) (hg : Gl X x) (ha : PA X (e :: es) t) (hdb : (x == ("__debug__" : Str)) = false := by decide)
    (he : starEach (e :: es) X.env = (false, eval e X.env) :: starEach es X.env := by rfl) (hpl : (backTo pos (starEach es X.env)).any (·.1) = false := by rfl) :
    PE X (.Call (.Name x p) (e :: es) [] pos) (tCall sp dvs E0 t) := by
  obtain ⟨f, fd, ps, ds, h1, h2, h3, h4, h5⟩ := D.ex
  exact pe_call h2 hr hg h1 h3 h4 h5 pass0 ha hdb he hpl
theorem pe_d0 (D : Def X.prog X.w X.K X.mg X.base x k sp dvs) (hr : Room k X.A) (hg : Gl X x) (hdb : (x == ("__debug__" : Str)) = false := by decide) :
    PE X (.Call (.Name x p) [] [] pos) (tCall sp dvs E0 tNil) := by
  obtain ⟨f, fd, ps, ds, h1, h2, h3, h4, h5⟩ := D.ex
  exact pe_call0 h2 hr hg h1 h3 h4 h5 pass0 hdb
end
section
variable {P : Program} {w : World} {K : PySem.W.Frag} {mg : Str → Option Value} {base : Heap} {x qual : Str} {params : Arguments} {body : List Stmt} {scope : Scope} {dvs : List V} {kws : List (Str × V)} {f : Addr} {fd : FuncData}
/-- a def with defaults that lets nothing out -/
theorem okD0 {N ps : List Str} {k : Nat} {sp : Sp} (F : FunD K x qual params body scope dvs kws f fd) (S : FnScope N ps scope) (len : ∀ vs H Q E, sp vs H Q E → vs.length = ps.length)
    (hbody : ∀ (cdv : Value) (A : Around) (outer : List Env) (s : Shared) (H : Hp) (vs : List V) (Q : VK) (E : XK), Room k (A.deeper (envOfC qual scope s.heap.objs.size f cdv)) → sp vs H Q E →
      ∃ t, PSs (cxOf CX0 P w K mg base N qual scope f cdv A outer s H E).nox body t ∧ t { nx := fun _ H' => Q .non H', rt := Q } (start N vs) H) : FnOk P w K mg base CX0 (k + 1) f fd ps sp :=
  F.ok S len fun cdv A outer s H vs Q E hr hsp =>
    let ⟨t, h, q⟩ := hbody cdv A outer s H vs Q E hr hsp
    ⟨t, h.nox, q⟩
end
/-! ### numbers as rows of bytes -/
def gtl (r : Nat) : List Nat := if h : r = 0 then [] else (128 + r % 128) :: gtl (r / 128)
termination_by r
decreasing_by omega
theorem gtl0 : gtl 0 = [] := by rw [gtl]; rfl
theorem gtl1 {r : Nat} (h : r ≠ 0) : gtl r = (128 + r % 128) :: gtl (r / 128) := by
  rw [gtl, dif_neg h]
def gapB (n : Nat) : List Nat := ((n % 128) :: gtl (n / 128)).reverse
def val (l : List Nat) : Nat := l.foldl (fun t b => t * 128 + b % 128) 0
theorem val_snoc (l : List Nat) (b : Nat) : val (l ++ [b]) = val l * 128 + b % 128 := by
  unfold val
  rw [List.foldl_append]
  rfl
theorem val_gtl (r : Nat) : val (gtl r).reverse = r := by
  induction r using Nat.strongRecOn with
  | _ r ih =>
    by_cases h : r = 0
    · subst h
      rw [gtl0]
      rfl
    · rw [gtl1 h, List.reverse_cons, val_snoc, ih (r / 128) (by omega)]
      omega
theorem gapB_eq (n : Nat) : gapB n = (gtl (n / 128)).reverse ++ [n % 128] := by
  unfold gapB
  rw [List.reverse_cons]
theorem val_gapB (n : Nat) : val (gapB n) = n := by
  rw [gapB_eq, val_snoc, val_gtl]
  omega
theorem gtl_len : ∀ (k r : Nat), r < 128 ^ k → (gtl r).length ≤ k
  | 0, r, h => by
    have e : r = 0 := by omega
    subst e
    rw [gtl0]
    exact Nat.zero_le _
  | k + 1, r, h => by
    by_cases z : r = 0
    · subst z
      rw [gtl0]
      exact Nat.zero_le _
    · rw [gtl1 z, List.length_cons]
      have := gtl_len k (r / 128) (by rw [Nat.pow_succ] at h; omega)
      omega
theorem gapB_len {n : Nat} (h : n < 268435456) : (gapB n).length ≤ 4 := by
  rw [gapB_eq, List.length_append, List.length_reverse]
  have := gtl_len 3 (n / 128) (by omega)
  show (gtl (n / 128)).length + 1 ≤ 4
  omega
theorem gapB_pos (n : Nat) : 0 < (gapB n).length := by
  rw [gapB_eq, List.length_append]
  show 0 < _ + 1
  omega
theorem gtl_mono (a b : Nat) (h : a ≤ b) : (gtl a).length ≤ (gtl b).length := by
  induction b using Nat.strongRecOn generalizing a with
  | _ b ih =>
    by_cases z : a = 0
    · subst z
      rw [gtl0]
      exact Nat.zero_le _
    · rw [gtl1 z, gtl1 (show b ≠ 0 by omega), List.length_cons, List.length_cons]
      have := ih (b / 128) (by omega) (a / 128) (by omega)
      omega
theorem gapB_mono {a b : Nat} (h : a ≤ b) : (gapB a).length ≤ (gapB b).length := by
  rw [gapB_eq, gapB_eq, List.length_append, List.length_append, List.length_reverse, List.length_reverse]
  have := gtl_mono (a / 128) (b / 128) (by omega)
  exact Nat.add_le_add_right this _
theorem gtl_big (r b : Nat) (h : b ∈ gtl r) : 128 ≤ b ∧ b < 256 := by
  induction r using Nat.strongRecOn with
  | _ r ih =>
    by_cases z : r = 0
    · subst z
      rw [gtl0] at h
      cases h
    · rw [gtl1 z] at h
      rcases List.mem_cons.mp h with e | e
      · omega
      · exact ih (r / 128) (by omega) e
theorem gtl_last (r b : Nat) (h : (gtl r).getLast? = some b) : b ≠ 128 := by
  induction r using Nat.strongRecOn with
  | _ r ih =>
    by_cases z : r = 0
    · subst z
      rw [gtl0] at h
      cases h
    · rw [gtl1 z] at h
      by_cases z2 : r / 128 = 0
      · rw [z2, gtl0] at h
        have e : 128 + r % 128 = b := Option.some.inj h
        omega
      · rw [List.getLast?_cons] at h
        cases q : (gtl (r / 128)).getLast? with
        | none =>
          rw [gtl1 z2] at q
          simp at q
        | some c =>
          rw [q] at h
          have e : c = b := Option.some.inj h
          subst e
          exact ih (r / 128) (by omega) q
theorem gapB_all (n b : Nat) (h : b ∈ gapB n) : b < 256 := by
  rw [gapB_eq] at h
  rcases List.mem_append.mp h with e | e
  · exact (gtl_big _ _ (List.mem_reverse.mp e)).2
  · have : b = n % 128 := by simpa using e
    omega
theorem gapB_head {n b : Nat} (h : (gapB n)[0]? = some b) (hb : 128 ≤ b) : b ≠ 128 := by
  rw [gapB_eq] at h
  cases q : (gtl (n / 128)).reverse with
  | nil =>
    rw [q] at h
    have e : n % 128 = b := Option.some.inj h
    omega
  | cons c l =>
    rw [q] at h
    have e : c = b := Option.some.inj h
    subst e
    refine gtl_last (n / 128) c ?_
    have z : gtl (n / 128) = l.reverse ++ [c] := by
      have := congrArg List.reverse q
      rw [List.reverse_reverse, List.reverse_cons] at this
      exact this
    rw [z]
    simp
theorem gapB_mid {n i b : Nat} (h : (gapB n)[i]? = some b) (hi : i + 1 < (gapB n).length) : 128 ≤ b := by
  rw [gapB_eq] at h hi
  rw [List.length_append] at hi
  have hi' : i < (gtl (n / 128)).reverse.length := by
    have : i + 1 < (gtl (n / 128)).reverse.length + 1 := hi
    omega
  rw [List.getElem?_append_left hi'] at h
  exact (gtl_big _ _ (List.mem_reverse.mp (List.mem_of_getElem? h))).1
theorem gapB_end {n i b : Nat} (h : (gapB n)[i]? = some b) (hi : i + 1 = (gapB n).length) : b < 128 := by
  rw [gapB_eq] at h hi
  rw [List.length_append] at hi
  have e : i = (gtl (n / 128)).reverse.length := by
    have : i + 1 = (gtl (n / 128)).reverse.length + 1 := hi
    omega
  subst e
  rw [List.getElem?_append_right (Nat.le_refl _), Nat.sub_self] at h
  have e : n % 128 = b := Option.some.inj h
  omega
theorem flat_len : ∀ (l : List Nat), (∀ n ∈ l, n < 268435456) → (l.flatMap gapB).length ≤ 4 * l.length
  | [], _ => Nat.zero_le _
  | n :: l, h => by
    have h1 := flat_len l fun m hm => h m (List.mem_cons_of_mem _ hm)
    have h2 := gapB_len (h n (List.mem_cons_self ..))
    rw [List.flatMap_cons, List.length_append, List.length_cons]
    omega
def nums (l : List Nat) : List V := l.map fun (n : Nat) => V.int (n : Int)
theorem nums_snoc (l : List Nat) (b : Nat) : nums (l ++ [b]) = nums l ++ [.int (b : Int)] := by
  unfold nums
  rw [List.map_append]
  rfl
theorem nums_len (l : List Nat) : (nums l).length = l.length := by
  unfold nums
  rw [List.length_map]
theorem nums_at {l : List Nat} {i b : Nat} (h : l[i]? = some b) : (nums l)[i]? = some (.int (b : Int)) := by
  unfold nums
  rw [List.getElem?_map, h]
  rfl
theorem nums_app (l r : List Nat) : nums (l ++ r) = nums l ++ nums r := by
  unfold nums
  rw [List.map_append]
theorem nums_eq (l : List Nat) : nums l = (l.map fun (n : Nat) => (n : Int)).map V.int := by
  unfold nums
  rw [List.map_map]
  rfl
theorem nums_inv {l : List Nat} {i : Nat} {y : V} (h : (nums l)[i]? = some y) : ∃ b, l[i]? = some b ∧ y = .int (b : Int) := by
  unfold nums at h
  rw [List.getElem?_map] at h
  cases e : l[i]? with
  | none => rw [e] at h; cases h
  | some x => rw [e] at h; exact ⟨x, rfl, (Option.some.inj h).symm⟩
/-! ### names of the language -/
theorem bt_isinstance : bootBuiltins ("isinstance" : Str) = some (.builtin "isinstance") := by decide +kernel
theorem bt_all : bootBuiltins ("all" : Str) = some (.builtin "all") := by decide +kernel
theorem bt_any : bootBuiltins ("any" : Str) = some (.builtin "any") := by decide +kernel
theorem bt_sum : bootBuiltins ("sum" : Str) = some (.builtin "sum") := by decide +kernel
theorem bt_sorted : bootBuiltins ("sorted" : Str) = some (.builtin "sorted") := by decide +kernel
theorem bt_min : bootBuiltins ("min" : Str) = some (.builtin "min") := by decide +kernel
theorem bt_max : bootBuiltins ("max" : Str) = some (.builtin "max") := by decide +kernel
theorem bt_ord : bootBuiltins ("ord" : Str) = some (.builtin "ord") := by decide +kernel
theorem bt_abs : bootBuiltins ("abs" : Str) = some (.builtin "abs") := by decide +kernel
theorem bt_chr : bootBuiltins ("chr" : Str) = some (.builtin "chr") := by decide +kernel
theorem bt_list : bootBuiltins ("list" : Str) = some (.type "list") := by decide +kernel
theorem bt_tuple : bootBuiltins ("tuple" : Str) = some (.type "tuple") := by decide +kernel
theorem bt_int : bootBuiltins ("int" : Str) = some (.type "int") := by decide +kernel
theorem bt_str : bootBuiltins ("str" : Str) = some (.type "str") := by decide +kernel
theorem bt_bool : bootBuiltins ("bool" : Str) = some (.type "bool") := by decide +kernel
theorem bt_dict : bootBuiltins ("dict" : Str) = some (.type "dict") := by decide +kernel
def rLenQ (K : PySem.W.Frag) : List V → Hp → VK → Prop := fun xs H Q => ∃ p ys, xs = [.ref p] ∧ (SqL K H p ys ∨ SqT K H p ys) ∧ Q (.int ys.length) H
theorem call_lenQ {X : Cx} : CallR X (.builtin "len") (rLenQ X.K) := call_len_seq
theorem map_ref {ps : List Addr} {i : Nat} {x : Addr} (h : ps[i]? = some x) : (ps.map V.ref)[i]? = some (.ref x) := by
  rw [List.getElem?_map, h]
  rfl
theorem any_rep (n : Nat) : (List.replicate n false).any id = false := by
  induction n with
  | zero => rfl
  | succ k ih => rw [List.replicate_succ, List.any_cons, ih]; rfl
theorem all_rep (n : Nat) : (List.replicate n true).all id = true := by
  induction n with
  | zero => rfl
  | succ k ih => rw [List.replicate_succ, List.all_cons, ih]; rfl
/-- gap_bytes of a number within its bounds: a new list -/
def spGapBytes : Sp := fun vs H Q _ => ∃ (n : Nat) (H0 : Hp), vs = [.int (n : Int)] ∧ n < 268435456 ∧ Ex H0 H ∧
  ∀ (p : Addr) (H' : Hp), Go (fun _ => False) H0 H H0 H' → H p = none → H' p = some (.lst (nums (gapB n))) → Q (.ref p) H'
theorem str_len (a b : Str) : (a ++ b).length = a.length + b.length := by
  first
    | exact PySem.strLen_append a b
    | exact PySem.Str.length_append a b
theorem log_small {n : Nat} (h : n < 10 ^ 40) : n.log2 < 1920 := by
  by_cases z : n = 0
  · subst z
    decide
  · rw [Nat.log2_lt z]
    exact Nat.lt_of_lt_of_le h (Nat.le_trans (show 10 ^ 40 ≤ 2 ^ 160 by decide) (Nat.pow_le_pow_right (by decide) (by decide)))
theorem txt_sz {a : Str} {i : Int} (ha : a.length ≤ 1000) (h : i.natAbs < 10 ^ 40) : (a ++ (toString i : String)).length ≤ 3000 := by
  have h2 := PyProof.Rows.int_text_len_1921 (log_small h)
  rw [str_len]
  have : (PySem.Str.ofString (toString i)).length ≤ 1921 := h2
  omega
/-! ### data that stand in a heap -/
theorem Ex.tup {K : PySem.W.Frag} {H H' : Hp} {a : Addr} {xs : List V} (e : Ex H H') (h : SqT K H a xs) : SqT K H' a xs := by
  rcases h with (h | ⟨o, h⟩) | h
  · exact .inl (.inl (e _ _ h))
  · exact .inl (.inr ⟨o, e _ _ h⟩)
  · exact .inr h
mutual
theorem dp_up {K : PySem.W.Frag} {H H' : Hp} (e : Ex H H') : ∀ (d : PyData) (v : V), Dp K H v d → Dp K H' v d
  | .none, _, h => by cases h; exact .non
  | .bool b, _, h => by cases h; exact .bl b
  | .int i, _, h => by cases h; exact .int i
  | .str x, _, h => by cases h; exact .str x
  | .list ds, _, h => by
    cases h with
    | lst hs ha => exact .lst (e.seq hs) (dpa_up e ds _ ha)
  | .tuple ds, _, h => by
    cases h with
    | tup hs ha => exact .tup (e.tup hs) (dpa_up e ds _ ha)
  | .dict _, _, h => by cases h
theorem dpa_up {K : PySem.W.Frag} {H H' : Hp} (e : Ex H H') : ∀ (ds : List PyData) (vs : List V), DpAll K H vs ds → DpAll K H' vs ds
  | [], _, h => by cases h; exact .nil
  | d :: ds, _, h => by
    cases h with
    | cons h1 h2 => exact .cons (dp_up e d _ h1) (dpa_up e ds _ h2)
end
theorem dpa_len {K : PySem.W.Frag} {H : Hp} : ∀ {ds : List PyData} {vs : List V}, DpAll K H vs ds → vs.length = ds.length
  | [], _, h => by cases h; rfl
  | d :: ds, _, h => by
    cases h with
    | cons h1 h2 => exact congrArg Nat.succ (dpa_len h2)
theorem dpa_at {K : PySem.W.Frag} {H : Hp} : ∀ (ds : List PyData) (vs : List V) (i : Nat) (d : PyData), DpAll K H vs ds → ds[i]? = some d → ∃ v, vs[i]? = some v ∧ Dp K H v d
  | [], _, _, _, _, h => by simp at h
  | d :: ds, _, 0, d', h, e => by
    cases h with
    | cons h1 h2 =>
      have e := Option.some.inj e
      subst e
      exact ⟨_, rfl, h1⟩
  | d :: ds, _, i + 1, d', h, e => by
    cases h with
    | cons h1 h2 =>
      obtain ⟨v, e1, e2⟩ := dpa_at ds _ i d' h2 e
      exact ⟨v, e1, e2⟩
theorem dep_at : ∀ {ds : List PyData} {i : Nat} {d : PyData}, ds[i]? = some d → d.depth ≤ PyData.depthAll ds
  | [], _, _, e => by simp at e
  | d :: ds, 0, d', e => by
    have e := Option.some.inj e
    subst e
    exact Nat.le_max_left _ _
  | d :: ds, i + 1, d', e => Nat.le_trans (dep_at (ds := ds) e) (Nat.le_max_right _ _)
mutual
/-- no list in it is longer than 100000 -/
def smA : PyData → Prop
  | .list xs => xs.length ≤ 100000 ∧ smAll xs
  | .tuple xs => xs.length ≤ 100000 ∧ smAll xs
  | .dict _ => False
  | .none => True
  | .bool _ => True
  | .int _ => True
  | .str _ => True
def smAll : List PyData → Prop
  | [] => True
  | x :: xs => smA x ∧ smAll xs
end
theorem sm_at : ∀ {ds : List PyData} {i : Nat} {d : PyData}, smAll ds → ds[i]? = some d → smA d
  | [], _, _, _, e => by simp at e
  | d :: ds, 0, d', h, e => by
    have e := Option.some.inj e
    subst e
    exact h.1
  | d :: ds, i + 1, d', h, e => sm_at (ds := ds) h.2 e
theorem tyL {K : PySem.W.Frag} {H : Hp} {a : Addr} {xs : List V} (h : SqL K H a xs) : TyX K H (.ref a) (.type "list") := by
  rcases h with (h | ⟨o, h⟩) | ⟨o, its, n, h1, h2, _⟩
  · exact .base (.lst h)
  · exact .base (.frz h)
  · exact .kList h1 h2
theorem tyT {K : PySem.W.Frag} {H : Hp} {a : Addr} {xs : List V} (h : SqT K H a xs) : TyX K H (.ref a) (.type "tuple") := by
  rcases h with (h | ⟨o, h⟩) | ⟨o, its, n, h1, h2, _⟩
  · exact .base (.tup h)
  · exact .fTuple h
  · exact .kTuple h1 h2
/-- the type of a datum -/
def tyOf : PyData → String
  | .none => "NoneType"
  | .bool _ => "bool"
  | .int _ => "int"
  | .str _ => "str"
  | .list _ => "list"
  | .tuple _ => "tuple"
  | .dict _ => "dict"
theorem tyD {K : PySem.W.Frag} {H : Hp} {v : V} {d : PyData} (h : Dp K H v d) : TyX K H v (.type (tyOf d)) := by
  cases h with
  | non => exact .base .non
  | bl b => exact .base (.bl b)
  | int i => exact .base (.int i)
  | str x => exact .base (.str x)
  | lst hs _ => exact tyL hs
  | tup hs _ => exact tyT hs
theorem pe_nev {X : Cx} {e : Expr} : PE X e (fun _ _ _ => False) := ⟨fun _ _ _ _ _ _ h => h.elim⟩
theorem go_ex {H0 H H0' H' : Hp} (g : Go (fun _ => False) H0 H H0' H') : Ex H H' := fun b o h => g.keep b o h fun z => z
/-! ### ifs -/
theorem ifT {c : Bool} {A B : Prop} (hc : c = true) (h : A) : if c = true then A else B := by
  rw [if_pos hc]
  exact h
theorem ifF {c : Bool} {A B : Prop} (hc : c = false) (h : B) : if c = true then A else B := by
  rw [hc, if_neg Bool.false_ne_true]
  exact h
theorem ifD {c : Prop} [Decidable c] {A B : Prop} (h1 : c → A) (h2 : ¬ c → B) : if decide c = true then A else B := by
  by_cases h : c
  · exact ifT (decide_eq_true h) (h1 h)
  · exact ifF (decide_eq_false h) (h2 h)
theorem mem_sz {n : Nat} (h : n ≤ 1000000) : n ≤ sizeLine := Nat.le_trans h (by rw [sizeLine_eq]; decide)
theorem mem_lt {n : Nat} (h : n ≤ 1000000) : n < sizeLine := Nat.lt_of_le_of_lt h (by rw [sizeLine_eq]; decide)
theorem map_int {ns : List Int} {i : Nat} {x : Int} (h : ns[i]? = some x) : (ns.map V.int)[i]? = some (.int x) := by
  rw [List.getElem?_map, h]
  rfl
theorem map_int_inv {ns : List Int} {i : Nat} {y : V} (h : (ns.map V.int)[i]? = some y) : ∃ x, ns[i]? = some x ∧ y = .int x := by
  rw [List.getElem?_map] at h
  cases e : ns[i]? with
  | none => rw [e] at h; cases h
  | some x => rw [e] at h; exact ⟨x, rfl, (Option.some.inj h).symm⟩
end Rt

namespace Rt
open PySem PySem.Spec PySem.W PySem.Calls PyProof.Rows Builtin Builtin.ObjectAttr Builtin.Getset_descriptor
/-- the class at C bears the name z -/
structure Nmd (K : PySem.W.Frag) (C : Addr) (z : Str) : Prop where
  rd : PySem.W.readsIn K C (.type "type") = true
  fc : PySem.W.findCls K (.ref C) (.type "type") "__name__" = some (.get (.builtin "getset_descriptor.__get__") (.builtin "type.__name__") (.ref C) (.type "type"))
  ty : PySem.W.typeIn K (.ref C) = some (.type "type")
  nm : ∃ o tk, K.lookup C = some o ∧ (o.slots[2]?).join = some (.str z tk)
section
variable {prog : Program} {w : World} {A : Around} {E : Value → Shared → Prop} {s : Shared} {K : PySem.W.Frag} {R : Result → Shared → Prop}
theorem name_dga (d tp : Value) (C : Addr) : descrGetArgs ⟨[d, .ref C, tp], []⟩ = pure (d, some (.ref C), given tp) := by kernel_rfl
theorem name_get {C : Addr} {z : Str} {tp : Value} (X : K.In s.heap) (N : Nmd K C z) (h : ∀ tk, R (.ok (.ret (.str z tk))) s) :
    codeAny (model prog w) A (.call (.builtin "getset_descriptor.__get__") ⟨[.builtin "type.__name__", .ref C, tp], []⟩) R s := by
  obtain ⟨o, tk, hC, hz⟩ := N.nm
  obtain ⟨hh, g, dr, t, os⟩ := s
  have L0 : PySem.W.Looks (model prog w) hh (typeOf (.ref C)) (.type "type") := looks_typeIn X N.ty
  have L1 : PySem.W.Looks (model prog w) hh (isSubtype (.type "type") (.type "type")) true := Looks.of_pure (by rw [isSubtype_type]; kernel_rfl)
  have hget : hh.get? C = some o := X _ _ hC
  refine codeAny_call_builtin KF.slot_gs.plain KF.entry_gs (KF.slot_gs.check _ _ _ _ _ _ _ _ ktyn_type (KF.args_gs _ _ _) ?_)
  unfold Builtin.«getset_descriptor.__get__» descrGet
  rw [name_dga]
  refine wpAny_bind (wpAny_pure ?_)
  unfold descrGetter descrCheckInstance descrNameAndClass isInstance
  simp only [ktyn_owner]
  repeat lk
  refine ⟨Code.quiet_builtin _ (by decide +kernel), codeAny_builtin ktyn_entry ?_⟩
  unfold Builtin.«type.__name__»
  dsimp only
  unfold Builtin.keptObject slotAt
  refine wpAny_bind (wpAny_bind (wpAny_loadPart_at hget (wpAny_pure ?_)))
  rw [hz]
  exact wpAny_pure (h tk)
/-- C.__name__ -/
theorem name_attr {C : Addr} {z : Str} {expr : Bool} {Q : Value → Shared → Prop} (X : K.In s.heap) (N : Nmd K C z) (h : ∀ tk, Q (.str z tk) { s with toks := s.toks + 1 }) : wpAny (model prog w) A (getAttr (.ref C) "__name__" expr) Q E s := by
  refine cls_bind X N.rd N.fc ?_
  exact wpAny_call (name_get (s := { s with toks := s.toks + 1 }) X N fun tk => handed_on rfl (h tk))
end
/-- what an error's class says of __class__ -/
structure ClsE (K : PySem.W.Frag) (C : Addr) : Prop where
  ga : PySem.W.findIn K (.ref C) "__getattribute__" = some (some (.builtin "BaseException.__getattribute__"))
  gg : PySem.W.findIn K (.ref C) "__getattr__" = some none
  sb : PySem.W.subIn K (.ref C) (.type "BaseException") = some true
  hd : PySem.W.hasDictIn K C = true
  ca : PySem.W.findIn K (.ref C) "__class__" = some (some (.builtin "object.__class__"))
  cg : PySem.W.specialIn K (.builtin "object.__class__") "__get__" = some (some (.builtin "getset_descriptor.__get__"))
  ct : PySem.W.takesIn K (.builtin "object.__class__") = some true
  mo : PySem.W.mroIn K C (.type "object") = some true
section
variable {prog : Program} {w : World} {A : Around} {E : Value → Shared → Prop} {s : Shared} {K : PySem.W.Frag} {x D : Addr} {ox : Obj} {od : Option Obj}
/-- x.__class__ of an error of the class at D -/
theorem cls_attr {expr : Bool} {Q : Value → Shared → Prop} (T : ClsE K D) (X : K.In s.heap) (I : PySem.W.InstAt s.heap x ox D od) (hf : PySem.W.findObj K D od "__class__" = some (.bind (.builtin "getset_descriptor.__get__") (.builtin "object.__class__")))
    (h : Q (.ref D) { s with toks := s.toks + 1 }) : wpAny (model prog w) A (getAttr (.ref x) "__class__" expr) Q E s := by
  obtain ⟨hp, g, d, t, os⟩ := s
  have K0 := I.type (M := model prog w)
  have K1 := looks_findIn (M := model prog w) X T.ga
  have K2 := looks_findIn (M := model prog w) X T.gg
  have K3 := looks_find (M := model prog w) X I hf
  have up : PySem.W.Looks (model prog w) hp (isInstance (.ref x) (.type "BaseException")) true := K0.andThen (looks_subIn X T.sb)
  have b0 : (expr && onTheHeap (Value.builtin "BaseException.__getattribute__")) = false := by cases expr <;> rfl
  have b2 : (Value.builtin "BaseException.__getattribute__" == Value.builtin "object.__getattribute__") = false := by decide +kernel
  have b1 : (onTheHeap (Value.ref D) && Value.builtin "BaseException.__getattribute__" == Value.builtin "object.__getattribute__") = false := by rw [b2]; rfl
  unfold getAttr getAttrBy
  refine wpAny_bind (wpAny_mkText ?_)
  refine wpAny_holding (wpAny_bind (K0.at (wpAny_bind (K1.at ?_))))
  show wpAny _ _ (if (onTheHeap (Value.ref D) && Value.builtin "BaseException.__getattribute__" == Value.builtin "object.__getattribute__") = true then _ else _) _ _ _
  rw [b1]
  rw [if_neg Bool.false_ne_true]
  unfold getAttrByItsOwn hookBefore
  refine wpAny_bind ?_
  rw [if_pos (show onTheHeap (Value.ref D) = true by rfl)]
  refine K2.at (wpAny_bind (wpAny_attempt ?_))
  refine wpAny_holding ?_
  unfold callGetattribute
  rw [b0]
  rw [if_neg Bool.false_ne_true]
  unfold boundAndCalled
  rw [PySem.F.excAttr_ValueError.ga.bind (Value.ref x)]
  refine wpAny_bind (wpAny_pure ?_)
  show wpAny _ _ (call (.builtin "BaseException.__getattribute__") [.ref x, .str "__class__" t]) _ _ _
  refine wpAny_call ?_
  refine codeAny_call_builtin PySem.F.excAttr_ValueError.ga.plain PySem.F.entry_bexc_ga ?_
  refine @check_slot (model prog w) _ _ ⟨hp, g, d, t + 1, os⟩ "BaseException.__getattribute__" "BaseException" "__getattribute__" (.ref x) [.str "__class__" t] [] _ (by decide +kernel) (by decide +kernel) up (PySem.F.args_bexc_ga (.ref x) (.str "__class__" t)) ?_
  unfold Builtin.«object.__getattribute__»
  refine wpAny_bind (wpAny_of_eq (a := ((Value.ref x : Value), [Value.str "__class__" t])) (by first | rfl | (simp only [slotArgs]; rfl)) ?_)
  refine wpAny_bind (wpAny_pure (wpAny_bind (K0.at ?_)))
  refine wpAny_bind (K3.at ?_)
  show wpAny _ _ (holding [Value.builtin "object.__class__"] (call (.builtin "getset_descriptor.__get__") [.builtin "object.__class__", .ref x, .ref D]) >>= ret) _ _ _
  refine wpAny_bind (wpAny_holding (wpAny_call ?_))
  refine class_get (s := ⟨hp, g, d, t + 1, os⟩) (ox := ox) (od := od) X I T.mo ?_
  first
    | exact wpAny_pure (handed_on rfl (wpAny_pure h))
    | exact wpAny_pure (handed_on rfl h)
    | exact wpAny_pure (wpAny_bind (handed_on rfl (wpAny_pure h)))
end
end Rt

namespace Rt
open PySem PySem.Spec PyProof.Rows L2
/-! ### errors with the field called -/
def tCN (K : PySem.W.Frag) (te : TE) : TE := fun σ H Q => te σ H fun x H1 => ∃ (a C : Addr) (z : Str), x = .ref a ∧ ClsE K C ∧ Nmd K C z ∧ H1 a = some (exo a C none) ∧ Q (.str z) H1
/-- self.__class__.__name__ of an error that is being made -/
theorem pe_cn {X : Cx} {o : Expr} {te : TE} {p1 p2 : Pos} (ho : PE X o te) (hb1 : attributeBase o "__class__" X.env (eval o X.env) = eval o X.env := by rfl)
    (hb2 : attributeBase (.Attribute o "__class__" p1) "__name__" X.env (eval (.Attribute o "__class__" p1) X.env) = eval (.Attribute o "__class__" p1) X.env := by rfl) :
    PE X (.Attribute (.Attribute o "__class__" p1) "__name__" p2) (tCN X.K te) := by
  refine ⟨fun pins s σ H Q I h => ?_⟩
  refine attr_of hb2 (attr_of hb1 (thn (ho.run pins s σ H _ I h) fun u s1 hh => ?_))
  obtain ⟨x, H1, I1, rx, a, C, z, ex, T, N, ea, q⟩ := hh
  subst ex
  obtain rfl : u = Value.ref a := rx
  obtain ⟨t1, he⟩ := exo_at I1.hok ea
  have J : PySem.W.InstAt s1.heap a _ C none := ⟨he, rfl, rfl, trivial⟩
  have hf := PySem.W.findObj_dataN (K := X.K) (C := C) (name := "__class__") (by obtain ⟨cd, hc, _⟩ := PySem.W.any_some T.hd; rw [hc]; rfl) T.ca T.cg T.ct
  refine cls_attr T I1.kIn J hf ?_
  have I2 := I1.tok (s1.toks + 1)
  refine name_attr I2.kIn N fun tk => ?_
  exact ⟨.str z, H1, I2.tok _, ⟨tk, rfl⟩, q⟩
/-- all that a raise asks of an error's class: its name, its class object, the word that its errors bear -/
structure Err (K : PySem.W.Frag) (mg : Str → Option Value) (x : Str) (C : Addr) (z word : Str) : Prop where
  g : mg x = some (.ref C)
  oex : OexC K C
  cls : ClsE K C
  nmd : Nmd K C z
  nc : PySem.W.findIn K (.ref C) "called" = some none
  low : Txt.lower z = word
  sz : z.length ≤ 1000
/-- TapeError.__init__ (and its like): self.called is the class's name in small letters -/
def spInit (K : PySem.W.Frag) : Sp := fun vs H Q _ => ∃ (a C : Addr) (why : V) (z : Str), vs = [.ref a, why] ∧ OexC K C ∧ ClsE K C ∧ Nmd K C z ∧ PySem.W.findIn K (.ref C) "called" = some none ∧ z.length ≤ 1000 ∧ H a = some (exo a C none) ∧
  ∀ dx, H dx = none → dx ≠ a → Q .non (upd (upd H dx (exd dx [("called", .str (Txt.lower z))])) a (exo a C (some dx)))
/-- the rule of __init__ as the program has it -/
theorem init_reads {K : PySem.W.Frag} {Q : VK} {E : XK} {vs : List V} {H : Hp} (h : spInit K vs H Q E) :
    tSeq (tDrop (tVeI K (tCons (tVar 0) (tCons (tVar 1) tNil)))) (tSeq (tAsg (tCN K (tVar 0)) (gName 2)) (tOst K "called" (tVar 0) (fun σ H Q => (tVar 2) σ H fun x H1 => ∃ a, x = .str a ∧ ([] : List V) = [] ∧ a.length ≤ 5592405 ∧ Q (.str (Txt.lower a)) H1)))
      { nx := fun _ H' => Q .non H', rt := Q } (L2.start ["self", "why", "name"] vs) H := by
  obtain ⟨a, C, why, z, rfl, T1, T2, T3, T4, hz, ha, q⟩ := h
  refine ⟨_, rfl, _, rfl, a, C, _, rfl, (by show 1 ≤ 1000; decide), T1, ha, ?_⟩
  refine ⟨_, rfl, a, C, z, rfl, T2, T3, ha, ?_⟩
  refine ⟨_, rfl, _, rfl, rfl, by omega, ?_⟩
  exact ⟨_, rfl, a, C, rfl, T1, T4, .inl ⟨ha, fun dx h1 h2 => q dx h1 h2⟩⟩
end Rt

namespace Rt
open PySem PySem.Spec PyProof.Rows L2
/-! ### several clauses, each with a name (slot i) -/
abbrev wipeEnds (i : Nat) (D : Ends) : Ends := { nx := fun τ G => D.nx (τ.set i none) G, rt := D.rt, bk := fun τ G => D.bk (τ.set i none) G, ct := fun τ G => D.ct (τ.set i none) G }
def wAll (K : PySem.W.Frag) (i : Nat) (W0 : WX) (D : Ends) : List (Value × (Addr → Value → Option Addr → TS)) → WX
  | [] => W0
  | p :: r => fun cls d τ G => ∃ b, PySem.W.exmOne K cls p.1 = some b ∧ (b = true → ∀ a, G a = none → p.2 a cls d (wipeEnds i D) (τ.set i (some (.ref a))) G) ∧ (b = false → wAll K i W0 D r cls d τ G)
inductive Hds (X : Cx) (n : Str) : List ExceptHandler → List (Value × (Addr → Value → Option Addr → TS)) → Prop
  | nil : Hds X n [] []
  | cons {x : Str} {c : Value} {ts : Addr → Value → Option Addr → TS} {b₀ : Stmt} {su : List Stmt} {np q : Pos} {hds : List ExceptHandler} {l : List (Value × (Addr → Value → Option Addr → TS))} (hc : Names X x c)
      (go : ∀ (a : Addr) (oe : Obj) (cls : Value) (d : Option Addr) (pn : List (Addr × Obj)), Zc cls d oe → (∃ vs, oe.data = .fields vs) → PSs (X.suite a ((a, oe) :: pn)) (b₀ :: su) (ts a cls d)) (r : Hds X n hds l) :
      Hds X n (.ExceptHandler (some (.Name x np)) (some n) (b₀ :: su) q :: hds) ((c, ts) :: l)
section
variable {X : Cx} {n : Str} {i : Nat} {body : List Stmt} {h1 : ExceptHandler} {hds : List ExceptHandler} {l : List (Value × (Addr → Value → Option Addr → TS))} {pos : Pos} {tb : WX → TS} {W0 : WX}
theorem ps_try_all (hs : X.stack = X.env :: X.outer) (hf : X.env.frame = some X.env.locals) (hN : X.N.Nodup) (hi : X.N[i]? = some n) (hln : X.env.kindOf n = some .local) (tk : Takes X W0)
    (hb : ∀ (W : WX) (pn : List (Addr × Obj)) (xe : Value → Shared → Prop), Takes (X.tr pn xe) W → PassesOwn (model X.prog X.w) X.A X.env xe → PSs (X.tr pn xe) body (tb W))
    (hh : Hds X n (h1 :: hds) l) : PS X (.Try body (h1 :: hds) [] [] pos) (fun D σ H => tb (wAll X.K i W0 D l) D σ H) := by
  refine ⟨fun pins s σ H D I h => ?_⟩
  have ok := I.ok
  have frm : X.A.frames = some (X.env :: X.outer) := by
    rw [ok.frames, hs]
  have nloc : Loc X.env.scope n := Or.inl hln
  have run := (hb (wAll X.K i W0 D l) (X.pn ++ pins) (fun e s₁ => wpAny (model X.prog X.w) X.A (noteFrame e X.env) (fun _ s₂ => wpAny (model X.prog X.w) X.A (setFlight e none) (fun _ s₃ =>
    wpAny (model X.prog X.w) X.A (handleBy e X.env (h1 :: hds)) (SP X pins D) X.xe s₃) X.xe s₂) X.xe s₁) (fun u s' xx => ?_) PassesOwn.looking).run [] s σ H D (I.toTry _) h
  · refine wpAny_Try_except (wpAny_mono run (fun f s1 hsp => ?_) (fun e s1 he => he))
    cases f with
    | next =>
      obtain ⟨τ, G, J, q⟩ := hsp
      exact wpAny_execs_nil ⟨τ, G, J.ofTry ok, q⟩
    | brk =>
      obtain ⟨τ, G, J, q⟩ := hsp
      exact ⟨τ, G, J.ofTry ok, q⟩
    | cont =>
      obtain ⟨τ, G, J, q⟩ := hsp
      exact ⟨τ, G, J.ofTry ok, q⟩
    | ret u =>
      obtain ⟨v, τ, G, J, r, q⟩ := hsp
      exact ⟨v, τ, G, J.ofTry ok, r, q⟩
  · obtain ⟨a, B, sI, pins', τ, G, cls, d, rfl, J', nb, up, sky, na, os, ag, w⟩ := xx
    have J : Inv X pins τ G sI := J'.ofTry ok
    have sky1 : Sky B (X.env :: X.outer) a (Zc cls d) X.env.locals s'.heap := by
      rw [← hs]; exact sky
    show wpAny (model X.prog X.w) X.A (noteFrame (.ref a) X.env) _ _ _
    refine Sky.land Zc.steady frm hf sky1 fun h3 fl3 up3 => ?_
    have J3 : Inv X pins τ G { s' with heap := h3 } := J.landed nb fl3.1 (up.trans up3) os ag
    obtain ⟨oe3, vs3, he3, hz3, hd3⟩ := fl3.there
    have off : ∀ {k : Heap} {o : Obj} {vs : Array Value}, k.FunFrames B (X.env :: X.outer) → k.get? a = some o → o.data = .fields vs → a ∉ frs (X.env :: X.outer) := by
      intro k o vs ff e dd hm
      obtain ⟨_, o', e', hnf⟩ := ff.mem hm
      rw [e] at e'
      cases e'
      exact hnf _ dd
    have nfr := off fl3.2.2.1 he3 hd3
    have nL : a ≠ X.env.locals := by
      intro z
      exact nfr (List.mem_filterMap.mpr ⟨X.env, List.mem_cons_self, by rw [hf, z]⟩)
    have nF : a ∉ X.fs := by
      intro hm
      obtain ⟨e, he, q⟩ := List.mem_filterMap.mp hm
      exact nfr (List.mem_filterMap.mpr ⟨e, List.mem_cons_of_mem _ he, q⟩)
    have S3 := J3.suite he3 hd3 na nL nF
    have go : ∀ {hds' : List ExceptHandler} {l' : List (Value × (Addr → Value → Option Addr → TS))}, Hds X n hds' l' → wAll X.K i W0 D l' cls d τ G →
        wpAny (model X.prog X.w) X.A (handleBy (.ref a) X.env hds') (SP X pins D) X.xe { s' with heap := h3 } := by
      intro hds' l' hk
      induction hk with
      | nil =>
        intro w
        refine wpAny_handleBy_nil ?_
        obtain ⟨k1, k2, k3, oe, vs, T, oT, ts', he, hz, hd, hv1, hr⟩ := id fl3
        unfold PySem.passOn
        refine wpAny_bind (wpAny_field he hd hv1 ?_)
        rw [if_neg (show ¬ ((Value.ref T == Value.none) = true) by simp)]
        have out : wpAny (model X.prog X.w) X.A (setFlight (.ref a) X.env.frame) (fun _ s4 => wpAny (model X.prog X.w) X.A (throw (.ref a) : Sem Flow) (SP X pins D) X.xe s4) X.xe { s' with heap := h3 } := by
          rw [hf]
          refine HandSPX.setFlight_upZ fl3 fun h4 hh4 up4 => ?_
          refine wpAny_throw (tk _ _ ⟨a, B, sI, pins, τ, G, cls, d, rfl, J, nb, (up.trans up3).trans up4, ?_, na, os, ag, w⟩)
          exact Or.inr (Or.inr (by rw [hs]; exact hh4))
        first
          | exact wpAny_bind (wpAny_pure (wpAny_bind out))
          | exact wpAny_bind out
      | @cons x c ts b₀ su np q hds2 l2 hc hsu r ih =>
        intro w
        obtain ⟨b, hb1, hyes, hno⟩ := w
        refine wpAny_handleBy_cons (codeAny_handlers_test ?_) (by intro q; cases q)
        have LT : PySem.W.Looks (model X.prog X.w) h3 (typeOf (.ref a)) cls := by
          intro A Q E s k q
          exact wpAny_typeOf_ref (k _ _ he3) (by rw [hz3.1]; exact q)
        have LM := PySem.W.exm_one (M := model X.prog X.w) (J3.kIn) LT hb1
        have test : ∀ {Q : Value → Shared → Prop} {E : Value → Shared → Prop}, Q c { s' with heap := h3 } → wpAny (model X.prog X.w) (X.A.mark (some (.ref a))) (eval (.Name x np) X.env) Q E { s' with heap := h3 } := by
          intro Q E q
          obtain ⟨hg, hdbg, hm⟩ := hc
          rcases hm with hm | ⟨hm, hv, hnn⟩
          · exact ld_glob (X := X.suite a ((a, oe3) :: (X.pn ++ pins))) S3 hg hm q hdbg
          · exact ld_blt (X := X.suite a ((a, oe3) :: (X.pn ++ pins))) S3 hg hm hv q hnn hdbg
        refine test (LM.here ?_)
        cases b with
        | false =>
          show wpAny _ X.A (handleBy (.ref a) X.env hds2) _ _ _
          exact ih (hno rfl)
        | true =>
          refine codeAny_handlers_suite_as (HandSPX.lands_againZ fl3 fun h4 fl4 up4 => ?_)
          have J4 : Inv X pins τ G { s' with heap := h4 } := J.landed nb fl4.1 ((up.trans up3).trans up4) os ag
          obtain ⟨oe4, vs4, he4, hz4, hd4⟩ := fl4.there
          have S4 := J4.suite he4 hd4 na nL nF
          refine store_ok (X := X.suite a ((a, oe4) :: (X.pn ++ pins))) (v := .ref a) S4 hN hi nloc rfl (fun s5 S5 => ?_) (Or.inr hln)
          have fin : ∀ {τ6 : L2.St} {G6 : Hp} {s6 : Shared} {Q : Shared → Prop}, Inv (X.suite a ((a, oe4) :: (X.pn ++ pins))) [] τ6 G6 s6 → (∀ s7, Inv X pins (τ6.set i none) G6 s7 → Q s7) →
              wpAny (model X.prog X.w) X.A (do bindName X.env n .none; unbindBehindTheSuite X.env n q) (fun _ s7 => Q s7) X.xe s6 := by
            intro τ6 G6 s6 Q S6 hq
            exact gone_ok (S6.unsuite ok) hN hi hln hq
          refine wpAny_mono ((hsu a oe4 cls d (X.pn ++ pins) hz4 ⟨_, hd4⟩).run [] s5 _ G _ S5 (hyes rfl a na)) (fun f s6 hsp => ?_) (fun _ _ z => False.elim z)
          cases f with
          | next =>
            obtain ⟨τ6, G6, S6, q6⟩ := hsp
            exact fin S6 fun s7 J7 => ⟨_, _, J7, q6⟩
          | brk =>
            obtain ⟨τ6, G6, S6, q6⟩ := hsp
            exact fin S6 fun s7 J7 => ⟨_, _, J7, q6⟩
          | cont =>
            obtain ⟨τ6, G6, S6, q6⟩ := hsp
            exact fin S6 fun s7 J7 => ⟨_, _, J7, q6⟩
          | ret u =>
            obtain ⟨v6, τ6, G6, S6, r6, q6⟩ := hsp
            exact fin S6 fun s7 J7 => ⟨_, _, _, J7, r6, q6⟩
    exact go hh w
end
end Rt

namespace Rt
open PySem PySem.Spec PyProof.Rows L2
/-- an error of the program, in flight: its class bears word (tape: under TapeError, else under MissingError); nothing else is turned -/
structure Raised (K : PySem.W.Frag) (mg : Str → Option Value) (word : Str) (tape : Bool) (H : Hp) (cls : Value) (d : Option Addr) (H' : Hp) : Prop where
  ex : ∃ (C CT CM dd : Addr), cls = .ref C ∧ d = some dd ∧ H dd = none ∧ H' = upd H dd (.xd [("called", .str word)]) ∧ XfC K C ∧ PySem.W.findIn K (.ref C) "called" = some none ∧
    mg "TapeError" = some (.ref CT) ∧ mg "MissingError" = some (.ref CM) ∧ PySem.W.exmOne K (.ref C) (.ref CT) = some tape ∧ (tape = false → PySem.W.exmOne K (.ref C) (.ref CM) = some true)
/-- an error's class with its __init__ (level k) -/
structure ErrK (P : Program) (w : World) (K : PySem.W.Frag) (mg : Str → Option Value) (base : Heap) (k : Nat) (x word : Str) (tape : Bool) : Prop where
  ex : ∃ (C CT CM fI : Addr) (z : Str) (fd : FuncData), Err K mg x C z word ∧ PySem.W.findIn K (.ref C) "__init__" = some (some (.ref fI)) ∧ PySem.W.typeIn K (.ref fI) = some (.type "function") ∧
    FnOk P w K mg base CX0 k fI fd ["self", "why"] (spInit K) ∧ Binds K fd ["self", "why"] [] ∧ XfC K C ∧
    mg "TapeError" = some (.ref CT) ∧ mg "MissingError" = some (.ref CM) ∧ PySem.W.exmOne K (.ref C) (.ref CT) = some tape ∧ (tape = false → PySem.W.exmOne K (.ref C) (.ref CM) = some true)
/-- raise X(why) -/
def tRaiseK (K : PySem.W.Frag) (mg : Str → Option Value) (word : Str) (tape : Bool) (W : WX) (ta : TA) : TS := fun _ σ H => ta σ H fun vs H1 => ∃ why, vs = [why] ∧ ∀ cls d H', Raised K mg word tape H1 cls d H' → W cls d σ H'
/-- a reading with room: what is read may be weakened -/
def tUp (ta : TA) : TA := fun σ H Q => ∃ R : List V → Hp → Prop, ta σ H R ∧ ∀ vs H1, R vs H1 → Q vs H1
theorem pa_up {X : Cx} {es : List Expr} {ta : TA} (ha : PA X es ta) : PA X es (tUp ta) := ⟨fun pos pins s σ H Q I ⟨R, h, imp⟩ => thn (ha.run pos pins s σ H R I h) fun us s1 ⟨vs, H1, I1, r, q⟩ => ⟨vs, H1, I1, r, imp vs H1 q⟩⟩
section
variable {X : Cx} {x word : Str} {tape : Bool} {k : Nat} {e : Expr} {es : List Expr} {ta : TA} {W : WX} {p pos pos2 : Pos}
theorem ps_raiseK (hc : X.calm = true) (T : ErrK X.prog X.w X.K X.mg X.base k x word tape) (hr : Room (k + 1) X.A) (tk : Takes X W) (hg : Gl X x) (ha : PA X (e :: es) ta) (hdb : (x == ("__debug__" : Str)) = false := by decide)
    (he : starEach (e :: es) X.env = (false, eval e X.env) :: starEach es X.env := by rfl) (hpl : (backTo pos (starEach es X.env)).any (·.1) = false := by rfl) :
    PS X (.Raise (some (.Call (.Name x p) (e :: es) [] pos)) none pos2) (tRaiseK X.K X.mg word tape W ta) := by
  obtain ⟨C, CT, CM, fI, z, fd, R, iC, tI, F1, hb, xf, g1, g2, m1, m2⟩ := T.ex
  have mk := pmk_oex (X := X) (CX := CX0) (p := p) (pos := pos) R.oex iC tI F1 hr hb .nil pass0 hg R.g (pa_up ha) hdb he hpl
  have rs := ps_raise (pos := pos2) hc tk mk
  refine ⟨fun pins s σ H D I h => rs.run pins s σ H D I ?_⟩
  -- from our reading to the rule's
  have imp : ∀ (vs : List V) (H1 : Hp), (∃ why, vs = [why] ∧ ∀ cls d H', Raised X.K X.mg word tape H1 cls d H' → W cls d σ H') →
      vs.length ≤ 1000 ∧ ∀ a, H1 a = none → spInit X.K (.ref a :: (vs ++ [])) (upd H1 a (exo a C none))
        (fun v H2 => v = .non ∧ ∃ (d : Addr) (fs : List (Str × V)), H2 a = some (exo a C (some d)) ∧ H2 d = some (exd d fs) ∧ H1 d = none ∧ W (.ref C) (some d) σ (upd (del H2 a) d (.xd fs))) (fun _ _ _ => False) := by
    rintro vs H1 ⟨why, rfl, q⟩
    refine ⟨(by show 1 ≤ 1000; decide), fun a ha => ⟨a, C, why, z, rfl, R.oex, R.cls, R.nmd, R.nc, R.sz, upd_same, fun dx hdx nda => ⟨rfl, dx, [("called", .str (Txt.lower z))], upd_same, ?_, ?_, ?_⟩⟩⟩
    · rw [upd_ne nda, upd_same]
    · rw [upd_ne nda] at hdx
      exact hdx
    · rw [upd_ne nda] at hdx
      refine q _ _ _ ⟨C, CT, CM, dx, rfl, rfl, hdx, ?_, xf, R.nc, g1, g2, m1, m2⟩
      funext b
      by_cases e1 : b = dx
      · rw [e1, upd_same, upd_same, R.low]
      · rw [upd_ne e1, upd_ne e1]
        by_cases e2 : b = a
        · rw [e2, del_same, ha]
        · rw [del_ne e2, upd_ne e2, upd_ne e1, upd_ne e2]
  exact ⟨_, h, imp⟩
end
end Rt

namespace Rt
open PySem PySem.Spec PyProof.Rows L2 LamX
/-! ### a def that is handed a lambda and calls it; what is raised is wished for at the slots -/
section
variable {X : Cx} {pins : List (Addr × Obj)} {σ : L2.St} {H : Hp} {s : Shared}
theorem pe_ask {CXg : CXT} {Eg : XK} {Ng : List Str} {qg : Str} {sg : Scope} {g f c' : Addr} {cdg pm ctv : Value} {params : Arguments} {body : Expr} {scope : Scope} {k i : Nat} {a : Str} {pn : List (Addr × Obj)} {xe : Value → Shared → Prop} {W : WX} {tb : XK → TE} {p1 p2 : Pos}
    (I : Inv X pins σ H s) (L : LamS X.env.scope scope) (hf : s.heap.get? f = some (PySem.W.kla_obj "<lambda>" (X.env.qual ++ "<lambda>") params body scope (cloFrom X.env.cells scope.names []) pm c' ctv)) (hfn : H f = none) (hfr : f ∉ frs X.stack)
    (hbind : bindArgs (PySem.W.kla_fn "<lambda>" (X.env.qual ++ "<lambda>") params body scope (cloFrom X.env.cells scope.names []) pm (.ref c') ctv) ⟨[], []⟩ = pure [])
    (tk : Takes ((cxOf CXg X.prog X.w X.K X.mg X.base Ng qg sg g cdg X.A X.stack s H Eg).tr pn xe) W) (hr : Room (k + 1) (X.A.deeper (envOfC qg sg s.heap.objs.size g cdg)))
    (hbody : ∀ (E : XK) (A : Around) (outer : List Env) (s : Shared) (H : Hp), Room k (A.deeper (lamEnv X scope s.heap.objs.size f c')) → PE (lamCx X A outer s H E scope f c') body (tb E))
    (hN : Ng[i]? = some a) (hv : Vis sg a) (hd : (a == ("__debug__" : Str)) = false := by decide) (hcd : (a == ("__classdict__" : Str)) = false := by decide) :
    PE ((cxOf CXg X.prog X.w X.K X.mg X.base Ng qg sg g cdg X.A X.stack s H Eg).tr pn xe) (.Call (.Name a p1) [] [] p2)
      (fun τ G Q => τ[i]? = some (some (.ref f)) ∧ G c' = some (CodeO c' (X.env.qual ++ "<lambda>")) ∧ ∃ (Ec : XK) (R : VK), (∀ cls d G', Ec cls d G' → W cls d τ G') ∧ (∀ v G', R v G' → Q v G') ∧ tb Ec σ G R) := by
  refine ⟨fun pinsZ sZ τ G Q IZ h => ?_⟩
  obtain ⟨hs, hc, Ec, R, hW, hR, ht⟩ := h
  have nm := (pe_var (X := (cxOf CXg X.prog X.w X.K X.mg X.base Ng qg sg g cdg X.A X.stack s H Eg).tr pn xe) (pos := p1) (i := i) hN hv hd hcd).run pinsZ sZ τ G (fun v H1 => v = .ref f ∧ H1 = G) IZ ⟨.ref f, hs, rfl, rfl⟩
  refine wpAny_Call_Name_kw (thn nm fun u s1 hu => ?_)
  obtain ⟨v, H1, I1, r1, ev, eH⟩ := hu
  subst ev
  rw [eH] at I1
  obtain rfl : u = Value.ref f := r1
  have un : Un (frs X.stack) [] H G s.heap s1.heap := I1.base
  have of1 := un.keep f _ hf hfn hfr (fun z => nomatch (show f ∈ ([] : List Addr) from z))
  refine PySem.W.callWith_F0 ⟨_, _, _, _, of1⟩ ?_
  obtain ⟨⟨oc, vs, t, hoc, hdc, hvc⟩, _, _⟩ := I1.hok c' _ hc
  have rc : codeAny (model X.prog X.w) (X.A.deeper (envOfC qg sg s.heap.objs.size g cdg)) (.call (.ref f) ⟨[], []⟩)
      (CR (L2.CX X.prog X.w) (envOfC qg sg s.heap.objs.size g cdg :: X.stack) X.prog X.w G s1 Q Ec) s1 := by
    refine PySem.W.kla_callFunE hr.depth of1 rfl L.co L.gen rfl ⟨c', oc, vs, t, rfl, hoc, hdc, hvc⟩ ?_
    rw [hbind]
    refine wpAny_pure (wpAny_newFunctionEnv (fun y hy => (L.own y hy).2) (fun y hy => absurd hy (by simp)) (fun h₁ hns hsb => ?_) L.kind)
    refine ⟨I1.nolimit.fresh _ hsb, ?_⟩
    show codeAny _ _ (.expr body (lamEnv X scope s1.heap.objs.size f c')) _ _
    have kp : ∀ b o, s1.heap.get? b = some o → h₁.get? b = some o := by
      intro b o e
      exact hsb.extBut b o (Nat.ne_of_lt (Heap.lt_size e)) (Heap.get?_push_of_some _ e)
    have J : Inv (lamCx X (X.A.deeper (envOfC qg sg s.heap.objs.size g cdg)) (envOfC qg sg s.heap.objs.size g cdg :: X.stack) s1 G Ec scope f c') [] σ G
        { s1 with heap := h₁, toks := s1.toks + ([] : List (Str × Value)).length } := lam_start2 I L I1.env0 hr.hd un hns kp
    refine PySem.W.kla_codeExpr (wpAny_mono ((hbody Ec _ _ s1 G (hr.deeper _)).run [] _ _ G R J ht) (fun v s' hq => ?_) fun e s' hq => hq)
    obtain ⟨w', H', J', rv, q⟩ := hq
    exact ⟨w', H', J'.os, J'.bare, J'.base, J'.hok, rv, hR _ _ q⟩
  refine wpAny_call (codeAny_mono rc fun r s' hq => ?_)
  cases r with
  | error e => exact tk e s' (XE.of_call I1 (fun cls d G' hE => hW cls d G' hE) hq)
  | ok fl =>
    cases fl with
    | ret u => exact I1.after hq
    | next => exact False.elim hq
    | brk => exact False.elim hq
    | cont => exact False.elim hq
end
/-- the def with its lambda in slot 0; TT: what it makes of the lambda's reading (tl E H Q: E what is wished of an error) -/
def Asks (X : Cx) (Ng : List Str) (x : Str) (sg : Scope) (g : Addr) (cdg : Value) (bg : List Stmt) (a : Str) (q : Str) (TT : (XK → Hp → VK → Prop) → Hp → VK → Prop) : Prop :=
  ∀ (f c' : Addr) (s : Shared) (H : Hp) (Q : VK) (tl : XK → Hp → VK → Prop),
    (∀ (W : WX) (pn : List (Addr × Obj)) (xe : Value → Shared → Prop) (p1 p2 : Pos), Takes ((cxOf C8.CX0 X.prog X.w X.K X.mg X.base Ng x sg g cdg X.A X.stack s H C8.E0).tr pn xe) W →
      PE ((cxOf C8.CX0 X.prog X.w X.K X.mg X.base Ng x sg g cdg X.A X.stack s H C8.E0).tr pn xe) (.Call (.Name a p1) [] [] p2) (fun τ G Q => τ[0]? = some (some (.ref f)) ∧ G c' = some (CodeO c' q) ∧ ∃ (Ec : XK) (R : VK), (∀ cls d G', Ec cls d G' → W cls d τ G') ∧ (∀ v G', R v G' → Q v G') ∧ tl Ec G R)) →
    H c' = some (CodeO c' q) → TT tl H Q →
    ∃ t, PSs (cxOf C8.CX0 X.prog X.w X.K X.mg X.base Ng x sg g cdg X.A X.stack s H C8.E0).nox bg t ∧ t { nx := fun _ H' => Q .non H', rt := Q } (L2.start Ng [.ref f]) H
section
variable {X : Cx}
/-- x(lambda: body) -/
theorem pe_asks {T : List (Addr × Str)} {TT : (XK → Hp → VK → Prop) → Hp → VK → Prop} {x a : Str} {g c P : Addr} {k : Nat} {pg : Arguments} {bg : List Stmt} {sg : Scope} {dV kV doc pm cdv ct oc : Value} {an od : Option Addr} {osl : Array (Option Value)} {Ng : List Str}
    {params : Arguments} {body : Expr} {scope : Scope} {t : XK → TE} {p lpos pos : Pos} (hg : Gl X x) (hm : X.mg x = some (.ref g)) (hk : PySem.W.keepIn X.K (.ref g) = true)
    (lk : X.K.lookup g = some ⟨oc, od, .func (PySem.W.fnOf x x pg bg sg dV kV doc pm an cdv ct), osl⟩) (hcg : PySem.W.codeIn X.K cdv x = true) (hb : L2.Binds X.K (PySem.W.fnOf x x pg bg sg dV kV doc pm an cdv ct) [a] []) (Sg : FnScope Ng [a] sg) (hNg : Ng[0]? = some a) (hva : Vis sg a)
    (hG : Asks X Ng x sg g cdv bg a (X.env.qual ++ "<lambda>") TT)
    (TB : TabB X.base X.mg c P) (hcode : X.env.code = .ref c) (hmT : (P, X.env.qual ++ "<lambda>") ∈ T) (hu : ∀ p ∈ T, p.1 = P → p.2 = X.env.qual ++ "<lambda>") (hr : Room (k + 2) X.A) (L : LamS X.env.scope scope) (hdef : defaultsOf params X.env = ([], []))
    (hbind : ∀ (q : Str) (cl : List (Str × Addr)) (pm cv ctv : Value), bindArgs (PySem.W.kla_fn "<lambda>" q params body scope cl pm cv ctv) ⟨[], []⟩ = pure [])
    (hbody : ∀ (E : XK) (A : Around) (outer : List Env) (s : Shared) (H : Hp) (f c' : Addr), Room k (A.deeper (lamEnv X scope s.heap.objs.size f c')) → PE (lamCx X A outer s H E scope f c') body (t E))
    (hdb : (x == ("__debug__" : Str)) = false := by decide) (hd : (a == ("__debug__" : Str)) = false := by decide) (hcd : (a == ("__classdict__" : Str)) = false := by decide) :
    PE X (.Call (.Name x p) [.Lambda params body scope lpos] [] pos) (tLam T TT t) := by
  refine ⟨fun pins s σ H Q I ⟨hT, h⟩ => ?_⟩
  refine wpAny_Call_Name_kw (ld_glob I hg hm ?_ hdb)
  refine PySem.W.callWith_K (h₀ := X.base) I.ok.mod.kin hk ?_ (by rfl) (by rfl)
  show wpAny _ _ (spliced ((false, eval (.Lambda params body scope lpos) X.env) :: backTo pos (starEach [] X.env))) _ _ s
  have made := fun (Q : Value → Shared → Prop) (E : Value → Shared → Prop) => lam_make2 (Q := Q) (E := E) (params := params) (body := body) (pos := lpos) I TB hcode hmT hu hT hdef (L.has I.ok)
  refine Calls.spliced_cons (made _ _ ?_)
  intro f c' pm' ctv H1 s' I1 eN T1 hf hfn hfr hco
  refine Calls.spliced_nil ⟨I1.kIn, ?_⟩
  have rc : codeAny (model X.prog X.w) X.A (.call (.ref g) ⟨[.ref f], []⟩) (CR C8.CX0 X.stack X.prog X.w H1 s' Q C8.E0) s' := by
    refine run_ofS (N := Ng) (ps := [a]) (us := [.ref f]) (vs := [.ref f]) lk hcg Sg hr I1.env0 (hb s' [.ref f] I1.kIn rfl) (.cons rfl .nil) rfl fun hr' => ?_
    have act := fun (W : WX) (pn : List (Addr × Obj)) (xe : Value → Shared → Prop) (p1 p2 : Pos) (tk : Takes ((cxOf C8.CX0 X.prog X.w X.K X.mg X.base Ng x sg g cdv X.A X.stack s' H1 C8.E0).tr pn xe) W) =>
      pe_ask (i := 0) (p1 := p1) (p2 := p2) (tb := t) I1 L hf hfn hfr (hbind _ _ _ _ _) tk hr' (fun E A outer s H hr2 => hbody E A outer s H f c' hr2) hNg hva hd hcd
    obtain ⟨t', ht', hq'⟩ := hG f c' s' H1 Q (fun E H' Q' => t E σ H' Q') act hco (h H1 eN T1)
    exact ⟨t', ht'.nox, hq'⟩
  refine wpAny_call (codeAny_mono rc fun r s2 hq => ?_)
  cases r with
  | error e => exact False.elim (show False from hq)
  | ok fl =>
    cases fl with
    | ret u => exact I1.after hq
    | next => exact False.elim hq
    | brk => exact False.elim hq
    | cont => exact False.elim hq
end
/-- e.f of the error that a suite holds, whatever its class -/
theorem pe_xfA {X : Cx} {a : Addr} {oe : Obj} {cls : Value} {d : Option Addr} {pn : List (Addr × Obj)} {e : Expr} {te : TE} {pos : Pos} {n : Str} (hz : Zc cls d oe) (hf : ∃ vs, oe.data = .fields vs) (he : PE (X.suite a ((a, oe) :: pn)) e te)
    (hb : attributeBase e n X.env (eval e X.env) = eval e X.env := by rfl) :
    PE (X.suite a ((a, oe) :: pn)) (.Attribute e n pos) (fun σ H Q => ∃ C, XfC X.K C ∧ PySem.W.findIn X.K (.ref C) n = some none ∧ tXf a cls d C n te σ H Q) :=
  ⟨fun pins s σ H Q I ⟨C, T, hno, h⟩ => (pe_xf T hno hz hf he hb).run pins s σ H Q I h⟩
end Rt

namespace Rt
open PySem PySem.Spec PyProof.Rows L2 LamX
/-- a def of the text that may let an error out -/
structure DefX (P : Program) (w : World) (K : PySem.W.Frag) (mg : Str → Option Value) (base : Heap) (x : Str) (k : Nat) (sp : Sp) : Prop where
  ex : ∃ (f : Addr) (fd : FuncData) (ps : List Str), mg x = some (.ref f) ∧ FnOk P w K mg base (L2.CX P w) k f fd ps sp ∧ PySem.W.keepIn K (.ref f) = true ∧ Binds K fd ps []
section
variable {X : Cx} {x : Str} {p pos : Pos} {e : Expr} {es : List Expr} {t : TA} {k : Nat} {sp : Sp} {W : WX}
theorem pe_dx (D : DefX X.prog X.w X.K X.mg X.base x k sp) (hr : Room k X.A) (hg : Gl X x) (tk : Takes X W) (ha : PA X (e :: es) t) (hdb : (x == ("__debug__" : Str)) = false := by decide)
    (he : starEach (e :: es) X.env = (false, eval e X.env) :: starEach es X.env := by rfl) (hpl : (backTo pos (starEach es X.env)).any (·.1) = false := by rfl) :
    PE X (.Call (.Name x p) (e :: es) [] pos) (tCallS sp (WE W) t) := by
  obtain ⟨f, fd, ps, h1, h2, h3, h4⟩ := D.ex
  exact pe_callS h2 hr hg h1 h3 h4 (fun σ => passAt tk σ) ha hdb he hpl
end
section
variable {P : Program} {w : World} {K : PySem.W.Frag} {mg : Str → Option Value} {base : Heap}
/-- a def whose code object is known -/
theorem okC {x qual : Str} {st : Stmt} {f c : Addr} {fd : FuncData} {N ps : List Str} {k : Nat} {sp : Sp} (F : Fun K x qual st f fd) (hcode : fd.code = .ref c) (S : FnScope N ps (defScope st)) (len : ∀ vs H Q E, sp vs H Q E → vs.length = ps.length)
    (hbody : ∀ (A : Around) (outer : List Env) (s : Shared) (H : Hp) (vs : List V) (Q : VK) (E : XK), Room k (A.deeper (envOfC qual (defScope st) s.heap.objs.size f (.ref c))) → sp vs H Q E →
      ∃ t, PSs (cxOf CX0 P w K mg base N qual (defScope st) f (.ref c) A outer s H E).nox (defBody st) t ∧ t { nx := fun _ H' => Q .non H', rt := Q } (L2.start N vs) H) : FnOk P w K mg base CX0 (k + 1) f fd ps sp := by
  obtain ⟨oc, od, kV, doc, pm, an, cdv, ct, osl, rfl, lk, hcd⟩ := F.ex
  have e : cdv = .ref c := hcode
  subst e
  refine fn_of lk hcd S len fun A outer s H vs Q E hr hsp => ?_
  obtain ⟨t, h, q⟩ := hbody A outer s H vs Q E hr hsp
  exact ⟨t, h.nox, q⟩
end
/-! ### tables of code objects -/
theorem tabs_but {T : List (Addr × Str)} {H H' : Hp} {d : Addr} {xs : List V} (t : Tabs T H) (hd : H d = some (.lst xs)) (k : ∀ b o, H b = some o → b ≠ d → H' b = some o) : Tabs T H' := by
  intro p hp
  obtain ⟨ps, h1, h2, h3⟩ := t p hp
  refine ⟨ps, k _ _ h1 (fun z => ?_), h2, fun pos cv hc => ?_⟩
  · rw [z, hd] at h1
    cases h1
  · obtain ⟨c, e1, e2⟩ := h3 pos cv hc
    refine ⟨c, e1, k _ _ e2 fun z => ?_⟩
    rw [z, hd] at e2
    unfold CodeO at e2
    cases e2
/-- nothing settled is a table -/
def NoTab (H0 : Hp) : Prop := ∀ b ps, H0 b ≠ some (.tbl ps)
theorem NoTab.upd {H0 : Hp} {p : Addr} {o : HO} (h : NoTab H0) (n : ∀ ps, o ≠ .tbl ps) : NoTab (upd H0 p o) := fun b ps z => by
  by_cases e : b = p
  · rw [e, upd_same] at z
    exact n ps (Option.some.inj z)
  · rw [upd_ne e] at z
    exact h b ps z
theorem Ex.extN {H0 H H' : Hp} (e : Ex H0 H) (n : NoTab H0) (x : ExtN H H') : Ex H0 H' := fun b o h => x b o (e b o h) fun ps z => n b ps (z ▸ h)
theorem Dr.extN {H0 H H' : Hp} {d : Addr} (x : Dr H0 H d) (e : ExtN H H') : Dr H0 H' d := by
  obtain ⟨⟨a, ns, i, j, k, l, h1, h2⟩, n⟩ := x
  exact ⟨⟨a, ns, i, j, k, l, e _ _ h1 (fun ps z => nomatch z), h2⟩, n⟩
/-- the least that a drawing needs -/
theorem Dr.least {H0 H : Hp} {d : Addr} (x : Dr H0 H d) (e : Ex H0 H) : ∃ A0 : Hp, Ex A0 H ∧ Dr A0 H d ∧ NoTab A0 := by
  obtain ⟨⟨a, ns, i, j, k, l, h1, h2, h3⟩, n⟩ := x
  refine ⟨upd (fun _ => none) a (.lst (ns.map V.int)), fun b o h => ?_, ⟨⟨a, ns, i, j, k, l, h1, upd_same, h3⟩, ?_⟩, NoTab.upd (fun b ps z => nomatch z) (fun ps z => nomatch z)⟩
  · by_cases z : b = a
    · rw [z, upd_same] at h
      cases h
      rw [z]
      exact e _ _ h2
    · rw [upd_ne z] at h
      cases h
  · have nda : d ≠ a := fun z => by
      rw [z, h2] at n
      cases n
    rw [upd_ne nda]
theorem Dr.lst {H0 H : Hp} {d : Addr} (x : Dr H0 H d) : ∃ xs, H d = some (.lst xs) := by
  obtain ⟨⟨a, ns, i, j, k, l, h1, _⟩, _⟩ := x
  exact ⟨_, h1⟩
/-- across a drawing step -/
theorem tabs_go {T : List (Addr × Str)} {H0 H H0' H' : Hp} {d : Addr} (t : Tabs T H) (x : Dr H0 H d) (g : Go (· = d) H0 H H0' H') : Tabs T H' := by
  obtain ⟨xs, hd⟩ := x.lst
  exact tabs_but t hd fun b o h n => g.keep b o h n
theorem tabs_new {T : List (Addr × Str)} {H : Hp} {p : Addr} {o : HO} (t : Tabs T H) (h : H p = none) : Tabs T (upd H p o) := t.ext fun b u e => by
  rw [upd_ne (ne_of_none e h)]
  exact e
end Rt

namespace Rt
open PySem PySem.Spec PyProof.Rows L2
/-! ### steps of the settled heap, said with a new letter -/
theorem Sd.nw {d p : Addr} {A0 A H0 H : Hp} (S : Sd d A0 A H0 H) (o : HO) (h : H p = none) : ∃ G0 G, upd H p o = G ∧ Sd d A0 A G0 G ∧ G0 p = some o ∧ Ex H0 G0 :=
  ⟨_, _, rfl, S.put o h, upd_same, Ex.new (S.ex.free h)⟩
theorem Go.nw {m : Addr → Prop} {p : Addr} {E0 E H0 H : Hp} (g : Go m E0 E H0 H) (o : HO) (h : H p = none) : ∃ G0 G, upd H p o = G ∧ Go m E0 E G0 G ∧ G0 p = some o ∧ Ex H0 G0 :=
  ⟨_, _, rfl, g.put o h, upd_same, Ex.new (g.inn.free h)⟩
/-- a new object, not settled -/
theorem Go.ly {m : Addr → Prop} {p : Addr} {E0 E H0 H : Hp} (g : Go m E0 E H0 H) (o : HO) (h : H p = none) : ∃ G, upd H p o = G ∧ Go m E0 E H0 G ∧ G p = some o ∧ Ex H G ∧ E p = none ∧ H0 p = none :=
  ⟨_, rfl, g.lay o h, upd_same, Ex.new h, g.fresh h, g.fresh0 h⟩
theorem upS {G : Hp} {p b : Addr} {o u : HO} (n : G p = none) (h : G b = some u) : upd G p o b = some u := by
  rw [upd_ne (ne_of_none h n)]
  exact h
/-- all but the drawing's list is settled -/
def butD (d : Addr) (H : Hp) : Hp := fun x => if x = d then none else H x
theorem but_ex (d : Addr) (H : Hp) : Ex (butD d H) H := fun x o h => by
  unfold butD at h
  split at h
  · cases h
  · exact h
theorem but_at {d x : Addr} {H : Hp} (n : x ≠ d) : butD d H x = H x := if_neg n
theorem but_dr {H0 H : Hp} {d : Addr} (e : Ex H0 H) (D : Dr H0 H d) : Dr (butD d H) H d := by
  obtain ⟨⟨a, ns, i, j, k, l, h1, h2, h3⟩, o⟩ := D
  refine ⟨⟨a, ns, i, j, k, l, h1, ?_, h3⟩, if_pos rfl⟩
  have n : a ≠ d := fun z => by rw [z, o] at h2; cases h2
  rw [but_at n]
  exact e _ _ h2
theorem but_none {d x : Addr} {H : Hp} (h : H x = none) : butD d H x = none := by
  unfold butD
  split
  · rfl
  · exact h
theorem but_up {d : Addr} {H0 H : Hp} (e : Ex H0 H) (h : H0 d = none) : Ex H0 (butD d H) := fun x o q => by
  rw [but_at (fun z => by rw [z, h] at q; cases q)]
  exact e _ _ q
end Rt

namespace Rt
open PySem PySem.Spec PyProof.Rows L2 LamX
/-! ### data -/
inductive Z where
  | non | bl (b : Bool) | int (i : Int) | str (s : Str) | lst (l : List Z) | tup (l : List Z)
  | dk (ks : List Key) (l : List Z) | dt (ks : List (List Key)) (l : List Z) | obj (C : Addr) (ns : List Str) (l : List Z)
mutual
inductive Zp (K : PySem.W.Frag) (H : Hp) : V → Z → Prop
  | non : Zp K H .non .non
  | bl (b : Bool) : Zp K H (.bl b) (.bl b)
  | int (i : Int) : Zp K H (.int i) (.int i)
  | str (x : Str) : Zp K H (.str x) (.str x)
  | lst {a : Addr} {vs : List V} {l : List Z} : H a = some (.lst vs) → Zps K H vs l → Zp K H (.ref a) (.lst l)
  | tup {a : Addr} {vs : List V} {l : List Z} : H a = some (.tup vs) → Zps K H vs l → Zp K H (.ref a) (.tup l)
  | tupK {a : Addr} {vs : List V} {l : List Z} : SqT K (fun _ => none) a vs → Zps K H vs l → Zp K H (.ref a) (.tup l)
  | dk {a : Addr} {ks : List Key} {vs : List V} {l : List Z} : H a = some (.dK (ks.zip vs)) → ks.length = vs.length → Zps K H vs l → Zp K H (.ref a) (.dk ks l)
  | dt {a : Addr} {ks : List (List Key)} {vs : List V} {l : List Z} : H a = some (.dT (ks.zip vs)) → ks.length = vs.length → Zps K H vs l → Zp K H (.ref a) (.dt ks l)
  | obj {a C dx : Addr} {ns : List Str} {vs : List V} {l : List Z} : H a = some (.ins C dx (ns.zip vs)) → H dx = some (.own a) → ns.length = vs.length → Zps K H vs l → Zp K H (.ref a) (.obj C ns l)
inductive Zps (K : PySem.W.Frag) (H : Hp) : List V → List Z → Prop
  | nil : Zps K H [] []
  | cons {v : V} {vs : List V} {z : Z} {zs : List Z} : Zp K H v z → Zps K H vs zs → Zps K H (v :: vs) (z :: zs)
end
mutual
def Z.imm : Z → Bool
  | .non => true
  | .bl _ => true
  | .int _ => true
  | .str _ => true
  | .lst _ => false
  | .tup l => Z.imms l
  | .dk _ _ => false
  | .dt _ _ => false
  | .obj _ _ _ => false
def Z.imms : List Z → Bool
  | [] => true
  | z :: l => z.imm && Z.imms l
end
theorem Zps.len {K : PySem.W.Frag} {H : Hp} : ∀ {vs : List V} {l : List Z}, Zps K H vs l → vs.length = l.length
  | _, _, .nil => rfl
  | _, _, .cons _ r => congrArg Nat.succ r.len
/-- what is known of a heap's mutable things by a part, tuples apart -/
def isTup : HO → Bool
  | .tup _ => true
  | _ => false
def isTbl : HO → Bool
  | .tbl _ => true
  | _ => false
/-- one knows less than the other -/
def Le (H H' : Hp) : Prop := ∀ b o, H b = some o → H' b = some o
mutual
theorem Zp.up {K : PySem.W.Frag} {H H' : Hp} (e : Le H H') : ∀ {z : Z} {v : V}, Zp K H v z → Zp K H' v z
  | .non, _, h => by cases h; exact .non
  | .bl _, _, h => by cases h; exact .bl _
  | .int _, _, h => by cases h; exact .int _
  | .str _, _, h => by cases h; exact .str _
  | .lst l, _, h => by cases h with | lst a b => exact .lst (e _ _ a) (Zps.up e b)
  | .tup l, _, h => by
    cases h with
    | tup a b => exact .tup (e _ _ a) (Zps.up e b)
    | tupK a b => exact .tupK a (Zps.up e b)
  | .dk _ _, _, h => by cases h with | dk a c b => exact .dk (e _ _ a) c (Zps.up e b)
  | .dt _ _, _, h => by cases h with | dt a c b => exact .dt (e _ _ a) c (Zps.up e b)
  | .obj _ _ _, _, h => by cases h with | obj a c d b => exact .obj (e _ _ a) (e _ _ c) d (Zps.up e b)
theorem Zps.up {K : PySem.W.Frag} {H H' : Hp} (e : Le H H') : ∀ {l : List Z} {vs : List V}, Zps K H vs l → Zps K H' vs l
  | [], _, h => by cases h; exact .nil
  | z :: l, _, h => by cases h with | cons a b => exact .cons (Zp.up e a) (Zps.up e b)
end
/-- all tuples of the one are the other's -/
def LeT (H H' : Hp) : Prop := ∀ b xs, H b = some (.tup xs) → H' b = some (.tup xs)
mutual
theorem Zp.imm {K : PySem.W.Frag} {H H' : Hp} (e : LeT H H') : ∀ {z : Z} {v : V}, z.imm = true → Zp K H v z → Zp K H' v z
  | .non, _, _, h => by cases h; exact .non
  | .bl _, _, _, h => by cases h; exact .bl _
  | .int _, _, _, h => by cases h; exact .int _
  | .str _, _, _, h => by cases h; exact .str _
  | .lst l, _, i, h => by cases i
  | .tup l, _, i, h => by
    have i : Z.imms l = true := i
    cases h with
    | tup a b => exact .tup (e _ _ a) (Zps.imm e i b)
    | tupK a b => exact .tupK a (Zps.imm e i b)
  | .dk _ _, _, i, h => by cases i
  | .dt _ _, _, i, h => by cases i
  | .obj _ _ _, _, i, h => by cases i
theorem Zps.imm {K : PySem.W.Frag} {H H' : Hp} (e : LeT H H') : ∀ {l : List Z} {vs : List V}, Z.imms l = true → Zps K H vs l → Zps K H' vs l
  | [], _, _, h => by cases h; exact .nil
  | z :: l, _, i, h => by
    have i : (z.imm && Z.imms l) = true := i
    rw [Bool.and_eq_true] at i
    cases h with | cons a b => exact .cons (Zp.imm e i.1 a) (Zps.imm e i.2 b)
end
/-! ### whose a thing is -/
inductive Own where
  | set | out | drw | slot (i : Nat) | tmp (j : Nat)
  deriving DecidableEq
def vw (S : Addr → Own) (H : Hp) (p : Own → Bool) : Hp := fun b => match H b with
  | some o => if isTbl o = true then none else if (isTup o || p (S b)) = true then some o else none
  | none => none
section
variable {S S' : Addr → Own} {H H' : Hp} {p q : Own → Bool}
theorem vw_at {b : Addr} {o : HO} (h : H b = some o) (n : isTbl o = false) (c : isTup o = true ∨ p (S b) = true) : vw S H p b = some o := by
  have c : (isTup o || p (S b)) = true := by rw [Bool.or_eq_true]; exact c
  unfold vw
  rw [h]
  simp [n, c]
theorem vw_of {b : Addr} {o : HO} (h : vw S H p b = some o) : H b = some o ∧ isTbl o = false ∧ (isTup o = true ∨ p (S b) = true) := by
  unfold vw at h
  cases e : H b with
  | none => rw [e] at h; cases h
  | some u =>
    rw [e] at h
    cases t : isTbl u with
    | true => simp [t] at h
    | false =>
      cases c : (isTup u || p (S b)) with
      | false => simp [t, c] at h
      | true =>
        simp only [t, c, Bool.false_eq_true, if_false, if_true, Option.some.injEq] at h
        subst h
        refine ⟨rfl, t, ?_⟩
        rw [Bool.or_eq_true] at c
        exact c
theorem vw_le (h : ∀ b o, H b = some o → isTbl o = false → (isTup o = true ∨ p (S b) = true) → H' b = some o ∧ (isTup o = true ∨ q (S' b) = true)) : Le (vw S H p) (vw S' H' q) := fun b o e => by
  obtain ⟨e1, e2, e3⟩ := vw_of e
  obtain ⟨h1, h2⟩ := h b o e1 e2 e3
  exact vw_at h1 e2 h2
theorem vw_mono (h : ∀ o, p o = true → q o = true) : Le (vw S H p) (vw S H q) := vw_le fun b o e _ c => ⟨e, c.imp id (h _)⟩
theorem vw_ex : Le (vw S H p) H := fun b o e => (vw_of e).1
theorem vw_tup : LeT (vw S H p) (vw S H q) := fun b xs e => vw_at (vw_of e).1 rfl (.inl rfl)
theorem vw_tupH : LeT H (vw S H q) := fun b xs e => vw_at e rfl (.inl rfl)
end
/-! ### bindings -/
/-- a shape: lists of whatever, tuples of shapes -/
inductive Sh where
  | any | lst | lstB (n : Nat) | tup (l : List Sh)
mutual
def ShP (K : PySem.W.Frag) (H : Hp) : V → Sh → Prop
  | _, .any => True
  | v, .lst => ∃ a vs, v = .ref a ∧ H a = some (.lst vs)
  | v, .lstB n => ∃ a vs, v = .ref a ∧ H a = some (.lst vs) ∧ vs.length ≤ n
  | v, .tup l => ∃ a vs, v = .ref a ∧ (H a = some (.tup vs) ∨ SqT K (fun _ => none) a vs) ∧ ShPs K H vs l
def ShPs (K : PySem.W.Frag) (H : Hp) : List V → List Sh → Prop
  | [], [] => True
  | v :: vs, s :: l => ShP K H v s ∧ ShPs K H vs l
  | _, _ => False
end
mutual
/-- without the lengths -/
def Sh.wk : Sh → Sh
  | .lstB _ => .lst
  | .tup l => .tup (Sh.wks l)
  | s => s
def Sh.wks : List Sh → List Sh
  | [] => []
  | s :: l => s.wk :: Sh.wks l
end
mutual
theorem ShP.up {K : PySem.W.Frag} {H H' : Hp} (h1 : ∀ b vs, H b = some (.lst vs) → H' b = some (.lst vs)) (h2 : LeT H H') : ∀ {s : Sh} {v : V}, ShP K H v s → ShP K H' v s
  | .any, _, _ => True.intro
  | .lst, _, ⟨a, vs, e, h⟩ => ⟨a, vs, e, h1 _ _ h⟩
  | .lstB n, _, ⟨a, vs, e, h, l⟩ => ⟨a, vs, e, h1 _ _ h, l⟩
  | .tup l, _, ⟨a, vs, e, h, r⟩ => ⟨a, vs, e, h.imp (h2 _ _) id, ShPs.up h1 h2 r⟩
theorem ShPs.up {K : PySem.W.Frag} {H H' : Hp} (h1 : ∀ b vs, H b = some (.lst vs) → H' b = some (.lst vs)) (h2 : LeT H H') : ∀ {l : List Sh} {vs : List V}, ShPs K H vs l → ShPs K H' vs l
  | [], [], _ => True.intro
  | s :: l, v :: vs, ⟨a, b⟩ => ⟨ShP.up h1 h2 a, ShPs.up h1 h2 b⟩
  | [], _ :: _, h => h.elim
  | _ :: _, [], h => h.elim
end
mutual
theorem ShP.wk {K : PySem.W.Frag} {H H' : Hp} (h1 : ∀ b vs, H b = some (.lst vs) → ∃ ws, H' b = some (.lst ws)) (h2 : LeT H H') : ∀ {s : Sh} {v : V}, ShP K H v s → ShP K H' v s.wk
  | .any, _, _ => True.intro
  | .lst, _, ⟨a, vs, e, h⟩ => let ⟨ws, h⟩ := h1 _ _ h; ⟨a, ws, e, h⟩
  | .lstB n, _, ⟨a, vs, e, h, l⟩ => let ⟨ws, h⟩ := h1 _ _ h; ⟨a, ws, e, h⟩
  | .tup l, _, ⟨a, vs, e, h, r⟩ => ⟨a, vs, e, h.imp (h2 _ _) id, ShPs.wk h1 h2 r⟩
theorem ShPs.wk {K : PySem.W.Frag} {H H' : Hp} (h1 : ∀ b vs, H b = some (.lst vs) → ∃ ws, H' b = some (.lst ws)) (h2 : LeT H H') : ∀ {l : List Sh} {vs : List V}, ShPs K H vs l → ShPs K H' vs (Sh.wks l)
  | [], [], _ => True.intro
  | s :: l, v :: vs, ⟨a, b⟩ => ⟨ShP.wk h1 h2 a, ShPs.wk h1 h2 b⟩
  | [], _ :: _, h => h.elim
  | _ :: _, [], h => h.elim
end
mutual
def Z.sh : Z → Sh
  | .lst l => .lstB l.length
  | .tup l => .tup (Z.shs l)
  | _ => .any
def Z.shs : List Z → List Sh
  | [] => []
  | z :: l => z.sh :: Z.shs l
end
/-! ### things of one's own with things of one's own in them -/
/-- a child: settled, or a list or a dict of one's own whose parts are settled -/
inductive Ch where
  | s (z : Z) | l (zs : List Z) | k (ks : List Key) (zs : List Z) | t (ks : List (List Key)) (zs : List Z)
inductive Root where
  | l (cs : List Ch) | k (ks : List Key) (cs : List Ch) | t (ks : List (List Key)) (cs : List Ch) | o (oa : Option Addr) (C : Addr) (ns : List Str) (cs : List Ch)
def Ch.z : Ch → Z
  | .s z => z
  | .l zs => .lst zs
  | .k ks zs => .dk ks zs
  | .t ks zs => .dt ks zs
def Root.z : Root → Z
  | .l cs => .lst (cs.map Ch.z)
  | .k ks cs => .dk ks (cs.map Ch.z)
  | .t ks cs => .dt ks (cs.map Ch.z)
  | .o _ C ns cs => .obj C ns (cs.map Ch.z)
def Root.cs : Root → List Ch
  | .l cs => cs
  | .k _ cs => cs
  | .t _ cs => cs
  | .o _ _ _ cs => cs
inductive B where
  | set (z : Z) | own (z : Z) | frs (z : Z) | bor (st : Bool) (is : List Nat) (z : Z) | drw (d : Addr) | dead | wld (s : Sh) | bwl (i : Nat) (s : Sh) | two (r : Root)
def eqO (o : Own) : Own → Bool := fun x => decide (x = o)
def borO (st : Bool) (is : List Nat) (me : Own) : Own → Bool := fun x => (st && decide (x = .set)) || decide (x = me) || is.any fun i => decide (x = .slot i)
theorem borO_iff {st : Bool} {is : List Nat} {me x : Own} : borO st is me x = true ↔ (st = true ∧ x = .set) ∨ x = me ∨ ∃ i ∈ is, x = .slot i := by
  unfold borO
  simp only [Bool.or_eq_true, Bool.and_eq_true, decide_eq_true_eq, List.any_eq_true, or_assoc]
/-- the top of a thing of one's own -/
def OwnP (K : PySem.W.Frag) (S : Addr → Own) (H : Hp) (me : Own) (v : V) : Z → Prop
  | .lst l => ∃ a vs, v = .ref a ∧ S a = me ∧ H a = some (.lst vs) ∧ Zps K (vw S H (eqO .set)) vs l
  | .dk ks l => ∃ a vs, v = .ref a ∧ S a = me ∧ H a = some (.dK (ks.zip vs)) ∧ ks.length = vs.length ∧ Zps K (vw S H (eqO .set)) vs l
  | .dt ks l => ∃ a vs, v = .ref a ∧ S a = me ∧ H a = some (.dT (ks.zip vs)) ∧ ks.length = vs.length ∧ Zps K (vw S H (eqO .set)) vs l
  | .obj C ns l => ∃ a dx vs, v = .ref a ∧ S a = me ∧ S dx = me ∧ H a = some (.ins C dx (ns.zip vs)) ∧ H dx = some (.own a) ∧ ns.length = vs.length ∧ Zps K (vw S H (eqO .set)) vs l
  | _ => False
/-- a child at v; oa: its own cell, if it has one -/
def ChP (K : PySem.W.Frag) (S : Addr → Own) (H : Hp) (me : Own) (v : V) (oa : Option Addr) : Ch → Prop
  | .s z => oa = none ∧ Zp K (vw S H (eqO .set)) v z
  | .l zs => ∃ a vs, oa = some a ∧ v = .ref a ∧ S a = me ∧ H a = some (.lst vs) ∧ Zps K (vw S H (eqO .set)) vs zs
  | .k ks zs => ∃ a vs, oa = some a ∧ v = .ref a ∧ S a = me ∧ H a = some (.dK (ks.zip vs)) ∧ ks.length = vs.length ∧ Zps K (vw S H (eqO .set)) vs zs
  | .t ks zs => ∃ a vs, oa = some a ∧ v = .ref a ∧ S a = me ∧ H a = some (.dT (ks.zip vs)) ∧ ks.length = vs.length ∧ Zps K (vw S H (eqO .set)) vs zs
def ChPs (K : PySem.W.Frag) (S : Addr → Own) (H : Hp) (me : Own) : List V → List (Option Addr) → List Ch → Prop
  | [], [], [] => True
  | v :: vs, a :: as, c :: cs => ChP K S H me v a c ∧ ChPs K S H me vs as cs
  | _, _, _ => False
/-- the cells of the children -/
def cells (as : List (Option Addr)) : List Addr := as.filterMap id
def RootP (S : Addr → Own) (H : Hp) (me : Own) (a : Addr) (vs : List V) : Root → Prop
  | .l _ => H a = some (.lst vs)
  | .k ks _ => H a = some (.dK (ks.zip vs)) ∧ ks.length = vs.length
  | .t ks _ => H a = some (.dT (ks.zip vs)) ∧ ks.length = vs.length
  | .o oa C ns _ => (∀ p, oa = some p → a = p) ∧ ∃ dx, S dx = me ∧ H a = some (.ins C dx (ns.zip vs)) ∧ H dx = some (.own a) ∧ ns.length = vs.length
def TwoP (K : PySem.W.Frag) (S : Addr → Own) (H : Hp) (me : Own) (v : V) (r : Root) : Prop := ∃ a vs as, v = .ref a ∧ S a = me ∧ RootP S H me a vs r ∧ ChPs K S H me vs as r.cs ∧ (a :: cells as).Nodup
def DrwP (S : Addr → Own) (H : Hp) (d : Addr) : Prop := S d = .drw ∧ ∃ (a : Addr) (ns : List Int) (i j k l : Int), H d = some (.lst [.ref a, .int i, .int j, .int k, .int l]) ∧ vw S H (eqO .set) a = some (.lst (ns.map V.int)) ∧ 0 ≤ i ∧ 0 ≤ j ∧ 0 ≤ k ∧ k < 2000000000
def B.P (K : PySem.W.Frag) (S : Addr → Own) (H : Hp) (me : Own) (v : V) : B → Prop
  | .set z => Zp K (vw S H (eqO .set)) v z
  | .own z => OwnP K S H me v z
  | .frs z => Zp K (vw S H (eqO me)) v z
  | .bor st is z => Zp K (vw S H (borO st is me)) v z
  | .drw d => v = .ref d ∧ DrwP S H d
  | .dead => True
  | .wld s => ShP K (vw S H (eqO me)) v s
  | .bwl i s => ShP K (vw S H (eqO (.slot i))) v s
  | .two r => TwoP K S H me v r
/-- is it borrowed -/
def B.brw : B → Bool
  | .bor _ _ _ => true
  | .bwl _ _ => true
  | _ => false
/-- what a binding is a reading of -/
def B.z : B → Option Z
  | .set z => some z
  | .own z => some z
  | .frs z => some z
  | .bor _ _ z => some z
  | .two r => some r.z
  | _ => none
def allO : Own → Bool := fun _ => true
theorem OwnP.all {K : PySem.W.Frag} {S : Addr → Own} {H : Hp} {me : Own} {v : V} {z : Z} {p : Own → Bool} (hs : p .set = true) (hm : p me = true) (h : OwnP K S H me v z) : Zp K (vw S H p) v z := by
  have m : Le (vw S H (eqO .set)) (vw S H p) := vw_mono fun o e => by rw [of_decide_eq_true e]; exact hs
  cases z with
  | lst l => obtain ⟨a, vs, rfl, s, h1, h2⟩ := h; exact .lst (vw_at h1 rfl (.inr (by rw [s]; exact hm))) (h2.up m)
  | dk ks l => obtain ⟨a, vs, rfl, s, h1, h2, h3⟩ := h; exact .dk (vw_at h1 rfl (.inr (by rw [s]; exact hm))) h2 (h3.up m)
  | dt ks l => obtain ⟨a, vs, rfl, s, h1, h2, h3⟩ := h; exact .dt (vw_at h1 rfl (.inr (by rw [s]; exact hm))) h2 (h3.up m)
  | obj C ns l => obtain ⟨a, dx, vs, rfl, s, s', h1, h2, h3, h4⟩ := h; exact .obj (vw_at h1 rfl (.inr (by rw [s]; exact hm))) (vw_at h2 rfl (.inr (by rw [s']; exact hm))) h3 (h4.up m)
  | _ => exact h.elim
theorem ChP.all {K : PySem.W.Frag} {S : Addr → Own} {H : Hp} {me : Own} {v : V} {oa : Option Addr} {c : Ch} {p : Own → Bool} (hs : p .set = true) (hm : p me = true) (h : ChP K S H me v oa c) : Zp K (vw S H p) v c.z := by
  have m : Le (vw S H (eqO .set)) (vw S H p) := vw_mono fun o e => by rw [of_decide_eq_true e]; exact hs
  cases c with
  | s z => exact h.2.up m
  | l zs => obtain ⟨a, vs, _, rfl, s, h1, h2⟩ := h; exact .lst (vw_at h1 rfl (.inr (by rw [s]; exact hm))) (h2.up m)
  | k ks zs => obtain ⟨a, vs, _, rfl, s, h1, h2, h3⟩ := h; exact .dk (vw_at h1 rfl (.inr (by rw [s]; exact hm))) h2 (h3.up m)
  | t ks zs => obtain ⟨a, vs, _, rfl, s, h1, h2, h3⟩ := h; exact .dt (vw_at h1 rfl (.inr (by rw [s]; exact hm))) h2 (h3.up m)
theorem ChPs.all {K : PySem.W.Frag} {S : Addr → Own} {H : Hp} {me : Own} {p : Own → Bool} (hs : p .set = true) (hm : p me = true) : ∀ {vs : List V} {as : List (Option Addr)} {cs : List Ch}, ChPs K S H me vs as cs → Zps K (vw S H p) vs (cs.map Ch.z)
  | [], [], [], _ => .nil
  | _ :: _, _ :: _, _ :: _, ⟨h, r⟩ => .cons (h.all hs hm) (ChPs.all hs hm r)
  | [], [], _ :: _, h => h.elim
  | [], _ :: _, _, h => by cases ‹List Ch› <;> exact h.elim
  | _ :: _, [], _, h => by cases ‹List Ch› <;> exact h.elim
  | _ :: _, _ :: _, [], h => h.elim
theorem TwoP.all {K : PySem.W.Frag} {S : Addr → Own} {H : Hp} {me : Own} {v : V} {r : Root} {p : Own → Bool} (hs : p .set = true) (hm : p me = true) (h : TwoP K S H me v r) : Zp K (vw S H p) v r.z := by
  obtain ⟨a, vs, as, rfl, sa, h1, h2, _⟩ := h
  have h3 := h2.all (p := p) hs hm
  cases r with
  | l cs => exact .lst (vw_at h1 rfl (.inr (by rw [sa]; exact hm))) h3
  | k ks cs => exact .dk (vw_at h1.1 rfl (.inr (by rw [sa]; exact hm))) h1.2 h3
  | t ks cs => exact .dt (vw_at h1.1 rfl (.inr (by rw [sa]; exact hm))) h1.2 h3
  | o oa C ns cs =>
    obtain ⟨_, dx, sd, h4, h5, h6⟩ := h1
    exact .obj (vw_at h4 rfl (.inr (by rw [sa]; exact hm))) (vw_at h5 rfl (.inr (by rw [sd]; exact hm))) h6 h3
/-- at another state of whose things are -/
theorem ChP.move {K : PySem.W.Frag} {S S' : Addr → Own} {H H' : Hp} {me me' : Own} {v : V} {oa : Option Addr} {c : Ch} (h : ChP K S H me v oa c) (m : Le (vw S H (eqO .set)) (vw S' H' (eqO .set))) (key : ∀ a o, H a = some o → isTbl o = false → S a = me → S' a = me' ∧ H' a = some o) : ChP K S' H' me' v oa c := by
  cases c with
  | s z => exact ⟨h.1, h.2.up m⟩
  | l zs => obtain ⟨a, vs, e, rfl, s, h1, h2⟩ := h; obtain ⟨k1, k2⟩ := key _ _ h1 rfl s; exact ⟨a, vs, e, rfl, k1, k2, h2.up m⟩
  | k ks zs => obtain ⟨a, vs, e, rfl, s, h1, h2, h3⟩ := h; obtain ⟨k1, k2⟩ := key _ _ h1 rfl s; exact ⟨a, vs, e, rfl, k1, k2, h2, h3.up m⟩
  | t ks zs => obtain ⟨a, vs, e, rfl, s, h1, h2, h3⟩ := h; obtain ⟨k1, k2⟩ := key _ _ h1 rfl s; exact ⟨a, vs, e, rfl, k1, k2, h2, h3.up m⟩
theorem ChPs.move {K : PySem.W.Frag} {S S' : Addr → Own} {H H' : Hp} {me me' : Own} (m : Le (vw S H (eqO .set)) (vw S' H' (eqO .set))) (key : ∀ a o, H a = some o → isTbl o = false → S a = me → S' a = me' ∧ H' a = some o) : ∀ {vs : List V} {as : List (Option Addr)} {cs : List Ch}, ChPs K S H me vs as cs → ChPs K S' H' me' vs as cs
  | [], [], [], _ => True.intro
  | _ :: _, _ :: _, _ :: _, ⟨h, r⟩ => ⟨h.move m key, ChPs.move m key r⟩
  | [], [], _ :: _, h => h.elim
  | [], _ :: _, _, h => by cases ‹List Ch› <;> exact h.elim
  | _ :: _, [], _, h => by cases ‹List Ch› <;> exact h.elim
  | _ :: _, _ :: _, [], h => h.elim
theorem TwoP.move {K : PySem.W.Frag} {S S' : Addr → Own} {H H' : Hp} {me me' : Own} {v : V} {r : Root} (h : TwoP K S H me v r) (m : Le (vw S H (eqO .set)) (vw S' H' (eqO .set))) (key : ∀ a o, H a = some o → isTbl o = false → S a = me → S' a = me' ∧ H' a = some o) : TwoP K S' H' me' v r := by
  obtain ⟨a, vs, as, rfl, sa, h1, h2, nd⟩ := h
  have h3 := h2.move m key
  cases r with
  | l cs => obtain ⟨k1, k2⟩ := key _ _ h1 rfl sa; exact ⟨a, vs, as, rfl, k1, k2, h3, nd⟩
  | k ks cs => obtain ⟨k1, k2⟩ := key _ _ h1.1 rfl sa; exact ⟨a, vs, as, rfl, k1, ⟨k2, h1.2⟩, h3, nd⟩
  | t ks cs => obtain ⟨k1, k2⟩ := key _ _ h1.1 rfl sa; exact ⟨a, vs, as, rfl, k1, ⟨k2, h1.2⟩, h3, nd⟩
  | o oa C ns cs =>
    obtain ⟨ho, dx, sd, h4, h5, h6⟩ := h1
    obtain ⟨k1, k2⟩ := key _ _ h4 rfl sa
    obtain ⟨j1, j2⟩ := key _ _ h5 rfl sd
    exact ⟨a, vs, as, rfl, k1, ⟨ho, dx, j1, k2, j2, h6⟩, h3, nd⟩
/-- nothing in it is settled but what stands for itself -/
def Ch.im : Ch → Bool
  | .s z => z.imm
  | .l zs => Z.imms zs
  | .k _ zs => Z.imms zs
  | .t _ zs => Z.imms zs
def Root.im (r : Root) : Bool := r.cs.all Ch.im
theorem ChP.moveI {K : PySem.W.Frag} {S S' : Addr → Own} {H H' : Hp} {me me' : Own} {v : V} {oa : Option Addr} {c : Ch} (h : ChP K S H me v oa c) (i : c.im = true) (m : LeT (vw S H (eqO .set)) (vw S' H' (eqO .set))) (key : ∀ a o, H a = some o → isTbl o = false → S a = me → S' a = me' ∧ H' a = some o) : ChP K S' H' me' v oa c := by
  cases c with
  | s z => exact ⟨h.1, h.2.imm m i⟩
  | l zs => obtain ⟨a, vs, e, rfl, s, h1, h2⟩ := h; obtain ⟨k1, k2⟩ := key _ _ h1 rfl s; exact ⟨a, vs, e, rfl, k1, k2, h2.imm m i⟩
  | k ks zs => obtain ⟨a, vs, e, rfl, s, h1, h2, h3⟩ := h; obtain ⟨k1, k2⟩ := key _ _ h1 rfl s; exact ⟨a, vs, e, rfl, k1, k2, h2, h3.imm m i⟩
  | t ks zs => obtain ⟨a, vs, e, rfl, s, h1, h2, h3⟩ := h; obtain ⟨k1, k2⟩ := key _ _ h1 rfl s; exact ⟨a, vs, e, rfl, k1, k2, h2, h3.imm m i⟩
theorem ChPs.moveI {K : PySem.W.Frag} {S S' : Addr → Own} {H H' : Hp} {me me' : Own} (m : LeT (vw S H (eqO .set)) (vw S' H' (eqO .set))) (key : ∀ a o, H a = some o → isTbl o = false → S a = me → S' a = me' ∧ H' a = some o) : ∀ {vs : List V} {as : List (Option Addr)} {cs : List Ch}, cs.all Ch.im = true → ChPs K S H me vs as cs → ChPs K S' H' me' vs as cs
  | [], [], [], _, _ => True.intro
  | _ :: _, _ :: _, c :: cs, i, ⟨h, r⟩ => by
    have i : (c.im && cs.all Ch.im) = true := i
    rw [Bool.and_eq_true] at i
    exact ⟨h.moveI i.1 m key, ChPs.moveI m key i.2 r⟩
  | [], [], _ :: _, _, h => h.elim
  | [], _ :: _, _, _, h => by cases ‹List Ch› <;> exact h.elim
  | _ :: _, [], _, _, h => by cases ‹List Ch› <;> exact h.elim
  | _ :: _, _ :: _, [], _, h => h.elim
theorem TwoP.moveI {K : PySem.W.Frag} {S S' : Addr → Own} {H H' : Hp} {me me' : Own} {v : V} {r : Root} (h : TwoP K S H me v r) (i : r.im = true) (m : LeT (vw S H (eqO .set)) (vw S' H' (eqO .set))) (key : ∀ a o, H a = some o → isTbl o = false → S a = me → S' a = me' ∧ H' a = some o) : TwoP K S' H' me' v r := by
  obtain ⟨a, vs, as, rfl, sa, h1, h2, nd⟩ := h
  have h3 := h2.moveI m key i
  cases r with
  | l cs => obtain ⟨k1, k2⟩ := key _ _ h1 rfl sa; exact ⟨a, vs, as, rfl, k1, k2, h3, nd⟩
  | k ks cs => obtain ⟨k1, k2⟩ := key _ _ h1.1 rfl sa; exact ⟨a, vs, as, rfl, k1, ⟨k2, h1.2⟩, h3, nd⟩
  | t ks cs => obtain ⟨k1, k2⟩ := key _ _ h1.1 rfl sa; exact ⟨a, vs, as, rfl, k1, ⟨k2, h1.2⟩, h3, nd⟩
  | o oa C ns cs =>
    obtain ⟨ho, dx, sd, h4, h5, h6⟩ := h1
    obtain ⟨k1, k2⟩ := key _ _ h4 rfl sa
    obtain ⟨j1, j2⟩ := key _ _ h5 rfl sd
    exact ⟨a, vs, as, rfl, k1, ⟨ho, dx, j1, k2, j2, h6⟩, h3, nd⟩
theorem B.P.all {K : PySem.W.Frag} {S : Addr → Own} {H : Hp} {me : Own} {v : V} {b : B} {z : Z} (h : b.P K S H me v) (e : b.z = some z) : Zp K (vw S H allO) v z := by
  cases b with
  | set y => cases e; exact Zp.up (vw_mono fun _ _ => rfl) h
  | own y => cases e; exact OwnP.all rfl rfl h
  | frs y => cases e; exact Zp.up (vw_mono fun _ _ => rfl) h
  | bor i y => cases e; exact Zp.up (vw_mono fun _ _ => rfl) h
  | two r => cases e; exact TwoP.all rfl rfl h
  | _ => cases e
/-- at another state of whose things are; the new owner's name is me' -/
theorem B.P.move {K : PySem.W.Frag} {S S' : Addr → Own} {H H' : Hp} {me me' : Own} {v : V} {b : B} (h : b.P K S H me v)
    (hk : ∀ x o, H x = some o → isTbl o = false → (isTup o = true ∨ S x = .set ∨ S x = me ∨ (∃ st is z, b = .bor st is z ∧ ∃ i ∈ is, S x = .slot i) ∨ (∃ d, b = .drw d ∧ x = d) ∨ (∃ i s, b = .bwl i s ∧ S x = .slot i)) → H' x = some o)
    (hdw : ∀ x, H x ≠ none → S x = .drw → S' x = .drw)
    (hs : ∀ x, H x ≠ none → S x = .set → S' x = .set) (hm : ∀ x, H x ≠ none → S x = me → S' x = me') (hb : ∀ st is z, b = .bor st is z → ∀ i ∈ is, ∀ x, H x ≠ none → S x = .slot i → S' x = .slot i ∨ (st = true ∧ S' x = .set)) (hw : ∀ i s, b = .bwl i s → ∀ x, H x ≠ none → S x = .slot i → S' x = .slot i) : b.P K S' H' me' v := by
  have m : Le (vw S H (eqO .set)) (vw S' H' (eqO .set)) := vw_le fun x o e n c => ⟨hk x o e n (c.imp id fun c => .inl (of_decide_eq_true c)), c.imp id fun c => decide_eq_true (hs x (by rw [e]; simp) (of_decide_eq_true c))⟩
  cases b with
  | set y => exact Zp.up m h
  | own y =>
    have key : ∀ a o, H a = some o → isTbl o = false → S a = me → S' a = me' ∧ H' a = some o := fun a o e n s => ⟨hm a (by rw [e]; simp) s, hk a o e n (.inr (.inr (.inl s)))⟩
    cases y with
    | lst l => obtain ⟨a, vs, rfl, s, h1, h2⟩ := h; obtain ⟨k1, k2⟩ := key _ _ h1 rfl s; exact ⟨a, vs, rfl, k1, k2, h2.up m⟩
    | dk ks l => obtain ⟨a, vs, rfl, s, h1, h2, h3⟩ := h; obtain ⟨k1, k2⟩ := key _ _ h1 rfl s; exact ⟨a, vs, rfl, k1, k2, h2, h3.up m⟩
    | dt ks l => obtain ⟨a, vs, rfl, s, h1, h2, h3⟩ := h; obtain ⟨k1, k2⟩ := key _ _ h1 rfl s; exact ⟨a, vs, rfl, k1, k2, h2, h3.up m⟩
    | obj C ns l => obtain ⟨a, dx, vs, rfl, s, s', h1, h2, h3, h4⟩ := h; obtain ⟨k1, k2⟩ := key _ _ h1 rfl s; obtain ⟨j1, j2⟩ := key _ _ h2 rfl s'; exact ⟨a, dx, vs, rfl, k1, j1, k2, j2, h3, h4.up m⟩
    | _ => exact h.elim
  | frs y =>
    refine Zp.up (vw_le fun x o e n c => ⟨hk x o e n (c.imp id fun c => .inr (.inl (of_decide_eq_true c))), c.imp id fun c => decide_eq_true (hm x (by rw [e]; simp) (of_decide_eq_true c))⟩) h
  | bor st is y =>
    refine Zp.up (vw_le fun x o e n c => ?_) h
    have c' := c.imp id borO_iff.mp
    refine ⟨hk x o e n (c'.imp id fun c => ?_), c'.imp id fun c => borO_iff.mpr ?_⟩
    · rcases c with c | c | c
      · exact .inl c.2
      · exact .inr (.inl c)
      · exact .inr (.inr (.inl ⟨st, is, y, rfl, c⟩))
    · rcases c with c | c | ⟨i, hi, c⟩
      · exact .inl ⟨c.1, hs x (by rw [e]; simp) c.2⟩
      · exact .inr (.inl (hm x (by rw [e]; simp) c))
      · exact (hb st is y rfl i hi x (by rw [e]; simp) c).elim (fun z => .inr (.inr ⟨i, hi, z⟩)) .inl
  | drw d =>
    obtain ⟨e, s, a, ns, i, j, k, l, h1, h2, h3⟩ := h
    exact ⟨e, hdw d (by rw [h1]; simp) s, a, ns, i, j, k, l, hk _ _ h1 rfl (.inr (.inr (.inr (.inr (.inl ⟨d, rfl, rfl⟩))))), m _ _ h2, h3⟩
  | dead => exact True.intro
  | two r => exact TwoP.move h m fun a o e n s => ⟨hm a (by rw [e]; simp) s, hk a o e n (.inr (.inr (.inl s)))⟩
  | wld s =>
    have q : Le (vw S H (eqO me)) (vw S' H' (eqO me')) := vw_le fun x o e n c => ⟨hk x o e n (c.imp id fun c => .inr (.inl (of_decide_eq_true c))), c.imp id fun c => decide_eq_true (hm x (by rw [e]; simp) (of_decide_eq_true c))⟩
    exact ShP.up (fun b vs e => q b _ e) (fun b vs e => q b _ e) h
  | bwl i s =>
    have q : Le (vw S H (eqO (.slot i))) (vw S' H' (eqO (.slot i))) := vw_le fun x o e n c => ⟨hk x o e n (c.imp id fun c => .inr (.inr (.inr (.inr ⟨i, s, rfl, of_decide_eq_true c⟩)))), c.imp id fun c => decide_eq_true (hw i s rfl x (by rw [e]; simp) (of_decide_eq_true c))⟩
    exact ShP.up (fun b vs e => q b _ e) (fun b vs e => q b _ e) h
end Rt

namespace Rt
open PySem PySem.Spec PyProof.Rows L2 LamX
/-! ### where a def stands, at the level of data -/
/-- the tables of code objects in which lambdas are found: of the law and of the defs that make them -/
class TabsT where
  T : List (Addr × Str)
variable [TabsT]
/-- K; m: what of the entry may be turned; E0: what the caller has settled; E: the entry -/
structure Fr where
  K : PySem.W.Frag
  m : Addr → Prop
  E0 : Hp
  E : Hp
structure GoZ (fr : Fr) (S : Addr → Own) (H : Hp) : Prop where
  up : Le fr.E0 (vw S H (eqO .set))
  keep : ∀ b o, fr.E b = some o → isTbl o = false → ¬ fr.m b → H b = some o
  there : ∀ b, fr.E b ≠ none → H b ≠ none
  new : ∀ b o, fr.E b = some o → S b = .set → fr.E0 b ≠ none ∨ isTup o = true
  ownS : ∀ b i, S b = .slot i → fr.E b = none ∨ fr.m b
  ownT : ∀ b j, S b = .tmp j → fr.E b = none
  ownD : ∀ b, S b = .drw → fr.E b = none ∨ fr.m b
  tabs : Tabs TabsT.T H
abbrev G := List (Option B)
structure RelS (fr : Fr) (F : Hp) (Γ : G) (T : List (V × B)) (σ : L2.St) (H : Hp) (S : Addr → Own) : Prop where
  go : GoZ fr S H
  f : Le F (vw S H (eqO .set))
  len : Γ.length = σ.length
  sl : ∀ (i : Nat) (b : B), Γ[i]? = some (some b) → ∃ v, σ[i]? = some (some v) ∧ b.P fr.K S H (.slot i) v
  tm : ∀ (j : Nat) (v : V) (b : B), T[j]? = some (v, b) → b.P fr.K S H (.tmp j) v
  nb : ∀ (i : Nat) (b : B), Γ[i]? = some (some b) → b.brw = false
theorem tup_tbl {o : HO} (h : isTup o = true) : isTbl o = false := by cases o <;> first | (cases h; done) | rfl
def Rel (fr : Fr) (F : Hp) (Γ : G) (T : List (V × B)) (σ : L2.St) (H : Hp) : Prop := ∃ S, RelS fr F Γ T σ H S
section
variable {fr : Fr} {F : Hp} {Γ : G} {T A : List (V × B)} {σ : L2.St} {H H' : Hp} {S S' : Addr → Own}
theorem tabs_ext {T : List (Addr × Str)} {H H' : Hp} (t : Tabs T H) (h : ∀ b o, H b = some o → H' b = some o) : Tabs T H' := t.ext h
theorem no_of_tup {T : List (V × B)} {j : Nat} {v : V} {b : B} (h : T[j]? = some (v, b)) : j < T.length := (List.getElem?_eq_some_iff.mp h).1
/-- a step that keeps all, and a new value behind what stays of the temporary ones -/
theorem RelS.ext (R : RelS fr F Γ (T ++ A) σ H S) (go : GoZ fr S' H') (hk : ∀ x o, H x = some o → isTbl o = false → H' x = some o) (hdw : ∀ x, H x ≠ none → S x = .drw → S' x = .drw) (hs : ∀ x, H x ≠ none → S x = .set → S' x = .set)
    (hsl : ∀ x i, H x ≠ none → S x = .slot i → S' x = .slot i) (ht : ∀ x j, H x ≠ none → j < T.length → S x = .tmp j → S' x = .tmp j) {v : V} {b : B} (hb : b.P fr.K S' H' (.tmp T.length) v) : RelS fr F Γ (T ++ [(v, b)]) σ H' S' where
  go := go
  f := fun x o e => vw_le (fun x o e n c => ⟨hk x o e n, c.imp id fun c => decide_eq_true (hs x (by rw [e]; simp) (of_decide_eq_true c))⟩) x o (R.f x o e)
  len := R.len
  sl := fun i b e => by
    obtain ⟨v, h1, h2⟩ := R.sl i b e
    exact ⟨v, h1, h2.move (fun x o e n _ => hk x o e n) hdw hs (fun x h => hsl x i h) (fun st is z _ i _ x h c => .inl (hsl x i h c)) fun i s _ x h c => hsl x i h c⟩
  tm := fun j v' b' e => by
    by_cases hj : j < T.length
    · rw [List.getElem?_append_left hj] at e
      exact (R.tm j v' b' (by rw [List.getElem?_append_left hj]; exact e)).move (fun x o e n _ => hk x o e n) hdw hs (fun x h => ht x j h hj) (fun st is z _ i _ x h c => .inl (hsl x i h c)) fun i s _ x h c => hsl x i h c
    · rw [List.getElem?_append_right (by omega)] at e
      have hj2 : j = T.length := by
        have := (List.getElem?_eq_some_iff.mp e).1
        have : j - T.length < 1 := this
        omega
      subst hj2
      rw [Nat.sub_self] at e
      cases e
      exact hb
  nb := R.nb
/-- the same heap, owners as they are -/
theorem RelS.same (R : RelS fr F Γ (T ++ A) σ H S) {v : V} {b : B} (hb : b.P fr.K S H (.tmp T.length) v) : RelS fr F Γ (T ++ [(v, b)]) σ H S :=
  R.ext R.go (fun _ _ e _ => e) (fun _ _ e => e) (fun _ _ e => e) (fun _ _ _ e => e) (fun _ _ _ _ e => e) hb
theorem Rel.drop (R : Rel fr F Γ (T ++ A) σ H) : Rel fr F Γ T σ H := by
  obtain ⟨S, R⟩ := R
  refine ⟨S, R.go, R.f, R.len, R.sl, fun j v b e => R.tm j v b ?_, R.nb⟩
  rw [List.getElem?_append_left (no_of_tup e)]
  exact e
theorem Rel.nil (R : Rel fr F Γ T σ H) : Rel fr F Γ [] σ H := Rel.drop (T := []) (A := T) R
/-- the temporary ones of A become things of o (o: settled, or the first of them) -/
def retm (n : Nat) (o : Own) (S : Addr → Own) : Addr → Own := fun x => match S x with
  | .tmp j => if n ≤ j then o else .tmp j
  | y => y
def newO (p : Addr) (o : Own) (S : Addr → Own) : Addr → Own := fun x => if x = p then o else S x
theorem retm_set {n : Nat} {o : Own} {x : Addr} (h : S x = .set) : retm n o S x = .set := by unfold retm; rw [h]
theorem retm_drw {n : Nat} {o : Own} {x : Addr} (h : S x = .drw) : retm n o S x = .drw := by unfold retm; rw [h]
theorem retm_slot {n i : Nat} {o : Own} {x : Addr} (h : S x = .slot i) : retm n o S x = .slot i := by unfold retm; rw [h]
theorem retm_lo {n j : Nat} {o : Own} {x : Addr} (hj : j < n) (h : S x = .tmp j) : retm n o S x = .tmp j := by
  unfold retm; rw [h]
  show (if n ≤ j then o else .tmp j) = _
  rw [if_neg (by omega)]
theorem retm_hi {n j : Nat} {o : Own} {x : Addr} (hj : n ≤ j) (h : S x = .tmp j) : retm n o S x = o := by
  unfold retm; rw [h]
  show (if n ≤ j then o else .tmp j) = _
  rw [if_pos hj]
theorem retm_cases {n : Nat} {o : Own} {x : Addr} : retm n o S x = S x ∨ ∃ j, S x = .tmp j ∧ n ≤ j ∧ retm n o S x = o := by
  unfold retm
  cases h : S x with
  | tmp j =>
    show (if n ≤ j then o else .tmp j) = _ ∨ _
    by_cases c : n ≤ j
    · exact .inr ⟨j, rfl, c, if_pos c⟩
    · exact .inl (if_neg c)
  | _ => exact .inl rfl
/-- owners of the temporary ones behind the n-th are named anew -/
theorem GoZ.retm (g : GoZ fr S H) (n : Nat) {o : Own} (ho : o = .set ∨ ∃ j, o = .tmp j) : GoZ fr (retm n o S) H where
  up := fun x u e => vw_le (fun x u e _ c => ⟨e, c.imp id fun c => decide_eq_true (retm_set (of_decide_eq_true c))⟩) x u (g.up x u e)
  keep := g.keep
  there := g.there
  new := fun b u e h => by
    rcases retm_cases (S := S) (n := n) (o := o) (x := b) with c | ⟨j, c, _, _⟩
    · rw [c] at h
      exact g.new b u e h
    · rw [g.ownT b j c] at e
      cases e
  ownS := fun b i h => by
    rcases retm_cases (S := S) (n := n) (o := o) (x := b) with c | ⟨j, c, _, c2⟩
    · rw [c] at h
      exact g.ownS b i h
    · exact .inl (g.ownT b j c)
  ownT := fun b j h => by
    rcases retm_cases (S := S) (n := n) (o := o) (x := b) with c | ⟨j', c, _, c2⟩
    · rw [c] at h
      exact g.ownT b j h
    · exact g.ownT b j' c
  ownD := fun b h => by
    rcases retm_cases (S := S) (n := n) (o := o) (x := b) with c | ⟨j, c, _, c2⟩
    · rw [c] at h
      exact g.ownD b h
    · exact .inl (g.ownT b j c)
  tabs := g.tabs
/-- a new object -/
theorem GoZ.lay (g : GoZ fr S H) {p : Addr} (hp : H p = none) {o : HO} {w : Own} (hw : w = .set ∨ ∃ j, w = .tmp j) : GoZ fr (newO p w S) (upd H p o) := by
  have ne : ∀ {b u}, H b = some u → b ≠ p := fun h => ne_of_none h hp
  have hE : fr.E p = none := by
    cases e : fr.E p with
    | none => rfl
    | some u => exact absurd hp (g.there p (by rw [e]; simp))
  have keep : ∀ b u, H b = some u → upd H p o b = some u := fun b u e => (upd_ne (ne e)).trans e
  refine ⟨fun x u e => ?_, fun b u e t n => keep b u (g.keep b u e t n), fun b e => ?_, fun b u e h => ?_, fun b i h => ?_, fun b j h => ?_, fun b h => ?_, g.tabs.ext keep⟩
  · refine vw_le (fun x u e _ c => ⟨keep x u e, c.imp id fun c => decide_eq_true ?_⟩) x u (g.up x u e)
    unfold newO
    rw [if_neg (ne e)]
    exact of_decide_eq_true c
  · by_cases c : b = p
    · rw [c, hE] at e
      exact absurd rfl e
    · rw [upd_ne c]
      exact g.there b e
  · have c : b ≠ p := fun z => by rw [z, hE] at e; cases e
    unfold newO at h
    rw [if_neg c] at h
    exact g.new b u e h
  · unfold newO at h
    by_cases c : b = p
    · rw [if_pos c] at h
      rcases hw with hw | ⟨j, hw⟩ <;> rw [hw] at h <;> cases h
    · rw [if_neg c] at h
      exact g.ownS b i h
  · unfold newO at h
    by_cases c : b = p
    · rw [c]
      exact hE
    · rw [if_neg c] at h
      exact g.ownT b j h
  · unfold newO at h
    by_cases c : b = p
    · rw [c]
      exact .inl hE
    · rw [if_neg c] at h
      exact g.ownD b h
theorem newO_ne {p x : Addr} {o : Own} (h : x ≠ p) : newO p o S x = S x := if_neg h
theorem newO_at {p : Addr} {o : Own} : newO p o S p = o := if_pos rfl
/-- a new object, and the temporary ones of A named anew -/
theorem RelS.alloc (R : RelS fr F Γ (T ++ A) σ H S) {p : Addr} (hp : H p = none) {o : HO} {w u : Own} (hw : w = .set ∨ w = .tmp T.length) (hu : u = .set ∨ u = .tmp T.length) {b : B}
    (hb : b.P fr.K (newO p w (retm T.length u S)) (upd H p o) (.tmp T.length) (.ref p)) : RelS fr F Γ (T ++ [(.ref p, b)]) σ (upd H p o) (newO p w (retm T.length u S)) := by
  have cv : ∀ {w : Own}, w = .set ∨ w = .tmp T.length → w = .set ∨ ∃ j, w = .tmp j := fun h => h.imp id fun h => ⟨_, h⟩
  have nP : ∀ x, H x ≠ none → newO p w (retm T.length u S) x = retm T.length u S x := fun x h => newO_ne fun z => h (z ▸ hp)
  refine R.ext ((R.go.retm T.length (cv hu)).lay hp (cv hw)) (fun x o e _ => (upd_ne (ne_of_none e hp)).trans e) (fun x h c => (nP x h).trans (retm_drw c)) (fun x h c => (nP x h).trans (retm_set c)) (fun x i h c => (nP x h).trans (retm_slot c)) (fun x j h hj c => (nP x h).trans (retm_lo hj c)) hb
/-- what the temporary ones of A are when they are named anew -/
theorem RelS.at (R : RelS fr F Γ (T ++ A) σ H S) {u : Own} {S' : Addr → Own} {H' : Hp} (hk : ∀ x o, H x = some o → isTbl o = false → H' x = some o) (hS : ∀ x, H x ≠ none → S' x = retm T.length u S x) {j : Nat} {v : V} {b : B} (h : A[j]? = some (v, b)) : b.P fr.K S' H' u v := by
  have e : (T ++ A)[T.length + j]? = some (v, b) := by
    rw [List.getElem?_append_right (by omega), show T.length + j - T.length = j by omega]
    exact h
  exact (R.tm _ v b e).move (fun x o e n _ => hk x o e n) (fun x h c => (hS x h).trans (retm_drw c)) (fun x h c => (hS x h).trans (retm_set c)) (fun x h c => (hS x h).trans (retm_hi (by omega) c)) (fun st is z _ i _ x h c => .inl ((hS x h).trans (retm_slot c))) fun i s _ x h c => (hS x h).trans (retm_slot c)
end
end Rt

namespace Rt
open PySem PySem.Spec PyProof.Rows L2 LamX
variable [TabsT]
/-! ### readings of data -/
abbrev ZE := G → (B → Prop) → Prop
abbrev ZT := G → (Bool → Prop) → Prop
abbrev ZA := G → (List B → Prop) → Prop
structure ZEnds where
  nx : G → Prop
  rt : G → B → Prop
  bk : G → Prop := fun _ => False
  ct : G → Prop := fun _ => False
abbrev ZS := ZEnds → G → Prop
abbrev ZG := B → G → (G → Prop) → Prop
abbrev ZI := G → (List Z → Prop) → Prop
section
variable (fr : Fr)
def SE (t : TE) (z : ZE) : Prop := ∀ (F : Hp) (Γ : G) (T : List (V × B)) (σ : L2.St) (H : Hp) (Q : VK) (k : B → Prop), Rel fr F Γ T σ H → (∀ b, k b → ∀ v H', Rel fr F Γ (T ++ [(v, b)]) σ H' → Q v H') → z Γ k → t σ H Q
def ST (t : TT) (z : ZT) : Prop := ∀ (F : Hp) (Γ : G) (T : List (V × B)) (σ : L2.St) (H : Hp) (Q : Bool → Hp → Prop) (k : Bool → Prop), Rel fr F Γ T σ H → (∀ b, k b → ∀ H', Rel fr F Γ T σ H' → Q b H') → z Γ k → t σ H Q
def SA (n : Nat) (t : TA) (z : ZA) : Prop := ∀ (F : Hp) (Γ : G) (T : List (V × B)) (σ : L2.St) (H : Hp) (Q : List V → Hp → Prop) (k : List B → Prop), Rel fr F Γ T σ H →
  (∀ bs, k bs → ∀ (A : List (V × B)) H', A.map (·.2) = bs → A.length = n → Rel fr F Γ (T ++ A) σ H' → Q (A.map (·.1)) H') → z Γ k → t σ H Q
structure ZD (F : Hp) (zD : ZEnds) (D : Ends) : Prop where
  nx : ∀ Γ σ H, Rel fr F Γ [] σ H → zD.nx Γ → D.nx σ H
  bk : ∀ Γ σ H, Rel fr F Γ [] σ H → zD.bk Γ → D.bk σ H
  ct : ∀ Γ σ H, Rel fr F Γ [] σ H → zD.ct Γ → D.ct σ H
  rt : ∀ Γ v b σ H, Rel fr F Γ [(v, b)] σ H → zD.rt Γ b → D.rt v H
def SS (t : TS) (z : ZS) : Prop := ∀ (F : Hp) (Γ : G) (σ : L2.St) (H : Hp) (zD : ZEnds) (D : Ends), Rel fr F Γ [] σ H → ZD fr F zD D → z zD Γ → t D σ H
def SG (g : TG) (z : ZG) : Prop := ∀ (F : Hp) (Γ : G) (T : List (V × B)) (σ : L2.St) (H : Hp) (v : V) (b : B) (Q : L2.St → Hp → Prop) (k : G → Prop), Rel fr F Γ (T ++ [(v, b)]) σ H → (∀ Γ', k Γ' → ∀ σ' H', Rel fr F Γ' T σ' H' → Q σ' H') → z b Γ k → g v σ H Q
/-- what a walk yields -/
structure ItZ (F : Hp) (J : It) (zs : List Z) : Prop where
  go : ∀ i H, i < zs.length → Le F H → J.go i H
  yld : ∀ (i : Nat) (z : Z) (Γ : G) (T : List (V × B)) (σ : L2.St) (H H' : Hp) (x : V), zs[i]? = some z → Rel fr F Γ T σ H → J.yld i H x H' → Rel fr F Γ (T ++ [(x, B.set z)]) σ H'
  stop : ∀ i H, zs.length ≤ i → Le F H → J.stop i H
def SI (w : TI) (z : ZI) : Prop := ∀ (F : Hp) (Γ : G) (T : List (V × B)) (σ : L2.St) (H : Hp) (R : It → Hp → Prop) (k : List Z → Prop), Rel fr F Γ T σ H → (∀ zs, k zs → ∀ F' J H', Le F F' → Rel fr F' Γ T σ H' → ItZ fr F' J zs → R J H') → z Γ k → w σ H R
end
section
variable {fr : Fr} {F F' : Hp} {Γ : G} {T A : List (V × B)} {σ : L2.St} {H H' : Hp} {S S' : Addr → Own}
theorem Rel.weak (R : Rel fr F' Γ T σ H) (h : Le F F') : Rel fr F Γ T σ H := by
  obtain ⟨S, R⟩ := R
  exact ⟨S, R.go, fun x o e => R.f x o (h x o e), R.len, R.sl, R.tm, R.nb⟩
theorem Rel.le (R : Rel fr F Γ T σ H) : Le F H := by
  obtain ⟨S, R⟩ := R
  exact fun x o e => vw_ex x o (R.f x o e)
theorem Rel.len (R : Rel fr F Γ T σ H) : Γ.length = σ.length := by
  obtain ⟨S, R⟩ := R
  exact R.len
/-- all that is settled is the floor -/
theorem Rel.floor (R : Rel fr F Γ T σ H) : ∃ F', Le F F' ∧ Rel fr F' Γ T σ H ∧ ∀ (j : Nat) (v : V) (z : Z), T[j]? = some (v, B.set z) → Zp fr.K F' v z := by
  obtain ⟨S, R⟩ := R
  exact ⟨vw S H (eqO .set), R.f, ⟨S, R.go, fun x o e => e, R.len, R.sl, R.tm, R.nb⟩, fun j v z e => R.tm j v _ e⟩
/-- a settled value -/
theorem Rel.push (R : Rel fr F Γ (T ++ A) σ H) {v : V} {z : Z} (h : Zp fr.K F v z) : Rel fr F Γ (T ++ [(v, B.set z)]) σ H := by
  obtain ⟨S, R⟩ := R
  exact ⟨S, R.same (b := .set z) (h.up R.f)⟩
theorem Rel.sc (R : Rel fr F Γ (T ++ A) σ H) {v : V} {z : Z} (h : ∀ H, Zp fr.K H v z) : Rel fr F Γ (T ++ [(v, B.set z)]) σ H := R.push (h _)
/-! ### names, constants -/
def B.rd (i : Nat) : B → Option B
  | .set z => some (.set z)
  | .own z => some (.bor true [i] z)
  | .frs z => some (.bor true [i] z)
  | .two r => some (.bor true [i] r.z)
  | _ => none
def zVar (i : Nat) : ZE := fun Γ k => match Γ[i]? with
  | some (some b) => match b.rd i with
    | some b => k b
    | none => False
  | _ => False
theorem z_var (i : Nat) : SE fr (tVar i) (zVar i) := by
  intro F Γ T σ H Q k R kq h
  obtain ⟨S, R⟩ := R
  unfold zVar at h
  cases e : Γ[i]? with
  | none => rw [e] at h; exact h.elim
  | some ob =>
    cases ob with
    | none => rw [e] at h; exact h.elim
    | some b =>
      rw [e] at h
      obtain ⟨v, hv, p⟩ := R.sl i b e
      refine ⟨v, hv, ?_⟩
      have R0 : RelS fr F Γ (T ++ []) σ H S := by rw [List.append_nil]; exact R
      cases b with
      | set z => exact kq _ h v H ⟨S, R0.same (b := .set z) p⟩
      | own z => exact kq _ h v H ⟨S, R0.same (b := .bor true [i] z) (OwnP.all (borO_iff.mpr (.inl ⟨rfl, rfl⟩)) (borO_iff.mpr (.inr (.inr ⟨i, .head _, rfl⟩))) p)⟩
      | frs z => exact kq _ h v H ⟨S, R0.same (b := .bor true [i] z) (Zp.up (vw_mono fun o q => by rw [of_decide_eq_true q]; exact borO_iff.mpr (.inr (.inr ⟨i, .head _, rfl⟩))) p)⟩
      | two r => exact kq _ h v H ⟨S, R0.same (b := .bor true [i] r.z) (TwoP.all (borO_iff.mpr (.inl ⟨rfl, rfl⟩)) (borO_iff.mpr (.inr (.inr ⟨i, .head _, rfl⟩))) p)⟩
      | _ => exact h.elim
def Z.items : Z → List Z
  | .lst l => l
  | .dk _ l => l
  | .dt _ l => l
  | .obj _ _ l => l
  | _ => []
/-- a name whose thing is handed on -/
def zVarM (i : Nat) : ZE := fun Γ k => match Γ[i]? with
  | some (some (.set z)) => z.imm = true ∧ k (.bor false [] z)
  | some (some (.own z)) => Z.imms z.items = true ∧ k (.bor false [i] z)
  | some (some (.frs z)) => k (.bor false [i] z)
  | _ => False
theorem OwnP.mov {K : PySem.W.Frag} {S : Addr → Own} {H : Hp} {me : Own} {v : V} {z : Z} {p : Own → Bool} (hm : p me = true) (hi : Z.imms z.items = true) (h : OwnP K S H me v z) : Zp K (vw S H p) v z := by
  cases z with
  | lst l => obtain ⟨a, vs, rfl, s, h1, h2⟩ := h; exact .lst (vw_at h1 rfl (.inr (by rw [s]; exact hm))) (h2.imm vw_tup hi)
  | dk ks l => obtain ⟨a, vs, rfl, s, h1, h2, h3⟩ := h; exact .dk (vw_at h1 rfl (.inr (by rw [s]; exact hm))) h2 (h3.imm vw_tup hi)
  | dt ks l => obtain ⟨a, vs, rfl, s, h1, h2, h3⟩ := h; exact .dt (vw_at h1 rfl (.inr (by rw [s]; exact hm))) h2 (h3.imm vw_tup hi)
  | obj C ns l => obtain ⟨a, dx, vs, rfl, s, s', h1, h2, h3, h4⟩ := h; exact .obj (vw_at h1 rfl (.inr (by rw [s]; exact hm))) (vw_at h2 rfl (.inr (by rw [s']; exact hm))) h3 (h4.imm vw_tup hi)
  | _ => exact h.elim
theorem z_varM (i : Nat) : SE fr (tVar i) (zVarM i) := by
  intro F Γ T σ H Q k R kq h
  obtain ⟨S, R⟩ := R
  unfold zVarM at h
  have R0 : RelS fr F Γ (T ++ []) σ H S := by rw [List.append_nil]; exact R
  cases e : Γ[i]? with
  | none => rw [e] at h; exact h.elim
  | some ob =>
    cases ob with
    | none => rw [e] at h; exact h.elim
    | some b =>
      rw [e] at h
      obtain ⟨v, hv, p⟩ := R.sl i b e
      refine ⟨v, hv, ?_⟩
      cases b with
      | set z => exact kq _ h.2 v H ⟨S, R0.same (b := .bor false [] z) (Zp.imm vw_tup h.1 p)⟩
      | own z => exact kq _ h.2 v H ⟨S, R0.same (b := .bor false [i] z) (OwnP.mov (borO_iff.mpr (.inr (.inr ⟨i, .head _, rfl⟩))) h.1 p)⟩
      | frs z => exact kq _ h v H ⟨S, R0.same (b := .bor false [i] z) (Zp.up (vw_mono fun o q => by rw [of_decide_eq_true q]; exact borO_iff.mpr (.inr (.inr ⟨i, .head _, rfl⟩))) p)⟩
      | _ => exact h.elim
def zC (z : Z) : ZE := fun _ k => k (.set z)
theorem z_c {v : V} {z : Z} (h : ∀ H, Zp fr.K H v z) : SE fr (tC v) (zC z) := fun F Γ T σ H Q k R kq q => kq _ q v H (Rel.sc (A := []) (by rw [List.append_nil]; exact R) h)
theorem z_int {i : Int} : SE fr (tC (.int i)) (zC (.int i)) := z_c fun _ => .int i
theorem z_str {s : Str} : SE fr (tC (.str s)) (zC (.str s)) := z_c fun _ => .str s
theorem z_bl {b : Bool} : SE fr (tC (.bl b)) (zC (.bl b)) := z_c fun _ => .bl b
theorem z_non : SE fr (tC .non) (zC .non) := z_c fun _ => .non
/-! ### argument lists -/
def zNil : ZA := fun _ k => k []
def zCons (z : ZE) (r : ZA) : ZA := fun Γ k => z Γ fun b => r Γ fun bs => k (b :: bs)
theorem za_nil : SA fr 0 tNil zNil := fun F Γ T σ H Q k R kq q => kq _ q [] H rfl rfl (by rw [List.append_nil]; exact R)
theorem za_cons {n : Nat} {t : TE} {z : ZE} {tr : TA} {zr : ZA} (h : SE fr t z) (hr : SA fr n tr zr) : SA fr (n + 1) (tCons t tr) (zCons z zr) := by
  intro F Γ T σ H Q k R kq q
  refine h F Γ T σ H _ _ R (fun b hb v H1 R1 => ?_) q
  refine hr F Γ _ σ H1 _ _ R1 (fun bs hbs A H2 e1 e2 R2 => ?_) hb
  have := kq _ hbs ((v, b) :: A) H2 (by rw [← e1]; rfl) (by rw [List.length_cons, e2]) (by rw [List.append_assoc] at R2; exact R2)
  exact this
/-! ### operators -/
/-- an operation on values -/
def SO2 (fr : Fr) (r : R2) (z : B → B → (B → Prop) → Prop) : Prop := ∀ (F : Hp) (Γ : G) (T : List (V × B)) (σ : L2.St) (H : Hp) (Q : VK) (k : B → Prop) (v1 v2 : V) (b1 b2 : B), Rel fr F Γ (T ++ [(v1, b1), (v2, b2)]) σ H → (∀ b, k b → ∀ v H', Rel fr F Γ (T ++ [(v, b)]) σ H' → Q v H') → z b1 b2 k → r v1 v2 H Q
def zOp (z : B → B → (B → Prop) → Prop) (za zb : ZE) : ZE := fun Γ k => za Γ fun b1 => zb Γ fun b2 => z b1 b2 k
theorem z_op {r : R2} {z : B → B → (B → Prop) → Prop} {ta tb : TE} {za zb : ZE} (h : SO2 fr r z) (ha : SE fr ta za) (hb : SE fr tb zb) : SE fr (tOp r ta tb) (zOp z za zb) := by
  intro F Γ T σ H Q k R kq q
  refine ha F Γ T σ H _ _ R (fun b1 h1 v1 H1 R1 => ?_) q
  refine hb F Γ _ σ H1 _ _ R1 (fun b2 h2 v2 H2 R2 => ?_) h1
  exact h F Γ T σ H2 _ _ v1 v2 b1 b2 (by rw [List.append_assoc] at R2; exact R2) kq h2
def SO1 (fr : Fr) (r : V → Hp → VK → Prop) (z : B → (B → Prop) → Prop) : Prop := ∀ (F : Hp) (Γ : G) (T : List (V × B)) (σ : L2.St) (H : Hp) (Q : VK) (k : B → Prop) (v1 : V) (b1 : B), Rel fr F Γ (T ++ [(v1, b1)]) σ H → (∀ b, k b → ∀ v H', Rel fr F Γ (T ++ [(v, b)]) σ H' → Q v H') → z b1 k → r v1 H Q
def zUn (z : B → (B → Prop) → Prop) (za : ZE) : ZE := fun Γ k => za Γ fun b1 => z b1 k
theorem z_un {r : V → Hp → VK → Prop} {z : B → (B → Prop) → Prop} {ta : TE} {za : ZE} (h : SO1 fr r z) (ha : SE fr ta za) : SE fr (tUn r ta) (zUn z za) := by
  intro F Γ T σ H Q k R kq q
  refine ha F Γ T σ H _ _ R (fun b1 h1 v1 H1 R1 => ?_) q
  exact h F Γ T σ H1 _ _ v1 b1 R1 kq h1
theorem rel_last {v : V} {b : B} {L : List (V × B)} (R : Rel fr F Γ (T ++ (L ++ [(v, b)])) σ H) : ∃ S, RelS fr F Γ (T ++ (L ++ [(v, b)])) σ H S ∧ b.P fr.K S H (.tmp (T.length + L.length)) v := by
  obtain ⟨S, R⟩ := R
  refine ⟨S, R, R.tm _ v b ?_⟩
  rw [List.getElem?_append_right (by omega), List.getElem?_append_right (by omega), show T.length + L.length - T.length - L.length = 0 by omega]
  rfl
theorem zp_int {K : PySem.W.Frag} {H : Hp} {v : V} {i : Int} (h : Zp K H v (.int i)) : v = .int i := by cases h; rfl
theorem zp_str {K : PySem.W.Frag} {H : Hp} {v : V} {i : Str} (h : Zp K H v (.str i)) : v = .str i := by cases h; rfl
theorem zp_bl {K : PySem.W.Frag} {H : Hp} {v : V} {i : Bool} (h : Zp K H v (.bl i)) : v = .bl i := by cases h; rfl
theorem zp_non {K : PySem.W.Frag} {H : Hp} {v : V} (h : Zp K H v .non) : v = .non := by cases h; rfl
/-- the reading of a temporary one -/
theorem Rel.tmp (R : Rel fr F Γ (T ++ A) σ H) {j : Nat} {v : V} {b : B} {z : Z} (h : A[j]? = some (v, b)) (e : b.z = some z) : ∃ S, RelS fr F Γ (T ++ A) σ H S ∧ Zp fr.K (vw S H allO) v z := by
  obtain ⟨S, R⟩ := R
  refine ⟨S, R, B.P.all (R.tm (T.length + j) v b ?_) e⟩
  rw [List.getElem?_append_right (by omega), show T.length + j - T.length = j by omega]
  exact h
theorem Rel.zp (R : Rel fr F Γ (T ++ A) σ H) {j : Nat} {v : V} {b : B} {z : Z} (h : A[j]? = some (v, b)) (e : b.z = some z) : Zp fr.K H v z := by
  obtain ⟨S, R, p⟩ := R.tmp h e
  exact p.up vw_ex
/-- two numbers give a scalar -/
def zI (C : Int → Int → Prop) (g : Int → Int → Z) : B → B → (B → Prop) → Prop := fun b1 b2 k => match b1, b2 with
  | .set (.int i), .set (.int j) => C i j ∧ k (.set (g i j))
  | _, _ => False
theorem so_int {C : Int → Int → Prop} {f : Int → Int → V} {g : Int → Int → Z} (hg : ∀ i j H, Zp fr.K H (f i j) (g i j)) : SO2 fr (rI C f) (zI C g) := by
  intro F Γ T σ H Q k v1 v2 b1 b2 R kq h
  unfold zI at h
  split at h
  · rename_i i j
    have e1 := zp_int (R.zp (j := 0) rfl rfl)
    have e2 := zp_int (R.zp (j := 1) rfl rfl)
    exact ⟨i, j, e1, e2, h.1, kq _ h.2 _ H (R.sc (hg i j))⟩
  · exact h.elim
def zI0 (g : Int → Int → Z) : B → B → (B → Prop) → Prop := fun b1 b2 k => match b1, b2 with
  | .set (.int i), .set (.int j) => k (.set (g i j))
  | _, _ => False
theorem so_int0 {f : Int → Int → V} {g : Int → Int → Z} (hg : ∀ i j H, Zp fr.K H (f i j) (g i j)) : SO2 fr (rI0 f) (zI0 g) := by
  intro F Γ T σ H Q k v1 v2 b1 b2 R kq h
  unfold zI0 at h
  split at h
  · rename_i i j
    have e1 := zp_int (R.zp (j := 0) rfl rfl)
    have e2 := zp_int (R.zp (j := 1) rfl rfl)
    exact ⟨i, j, e1, e2, kq _ h _ H (R.sc (hg i j))⟩
  · exact h.elim
end
end Rt

set_option autoImplicit false
namespace Rt
open PySem PySem.Spec PyProof.Rows L2 LamX
variable [TabsT]
section
variable {fr : Fr} {F F' : Hp} {Γ : G} {T A : List (V × B)} {σ : L2.St} {H H' : Hp} {S S' : Addr → Own}
/-! ### numbers -/
abbrev zAdd := zI0 fun i j => .int (i + j)
abbrev zSub := zI0 fun i j => .int (i - j)
abbrev zMul := zI CMul fun i j => .int (i * j)
abbrev zMod := zI (fun _ j => 0 < j) fun i j => .int (i % j)
abbrev zDiv := zI CDiv fun i j => .int (i / j)
abbrev zLt := zI0 fun i j => .bl (decide (i < j))
abbrev zLe := zI0 fun i j => .bl (decide (i ≤ j))
abbrev zGt := zI0 fun i j => .bl (decide (j < i))
abbrev zGe := zI0 fun i j => .bl (decide (j ≤ i))
theorem s_add : SO2 fr (rI0 fun i j => .int (i + j)) zAdd := so_int0 fun _ _ _ => .int _
theorem s_sub : SO2 fr (rI0 fun i j => .int (i - j)) zSub := so_int0 fun _ _ _ => .int _
theorem s_mul : SO2 fr (rI CMul fun i j => .int (i * j)) zMul := so_int fun _ _ _ => .int _
theorem s_mod : SO2 fr (rI (fun _ j => 0 < j) fun i j => .int (i % j)) zMod := so_int fun _ _ _ => .int _
theorem s_fdiv : SO2 fr (rI CDiv fun i j => .int (i / j)) zDiv := so_int fun _ _ _ => .int _
abbrev zPow := zI CPow fun i j => .int (i ^ j.toNat)
theorem s_pow : SO2 fr (rI CPow fun i j => .int (i ^ j.toNat)) zPow := so_int fun _ _ _ => .int _
abbrev zDivN := zI CDivN fun i j => .int (i.fdiv j)
theorem s_fdivN : SO2 fr (rI CDivN fun i j => .int (i.fdiv j)) zDivN := so_int fun _ _ _ => .int _
abbrev zModN := zI (fun _ j => j ≠ 0) fun i j => .int (i.fmod j)
theorem s_modN : SO2 fr (rI (fun _ j => j ≠ 0) fun i j => .int (i.fmod j)) zModN := so_int fun _ _ _ => .int _
theorem s_lt : SO2 fr (rI0 fun i j => .bl (decide (i < j))) zLt := so_int0 fun _ _ _ => .bl _
theorem s_le : SO2 fr (rI0 fun i j => .bl (decide (i ≤ j))) zLe := so_int0 fun _ _ _ => .bl _
theorem s_gt : SO2 fr (rI0 fun i j => .bl (decide (j < i))) zGt := so_int0 fun _ _ _ => .bl _
theorem s_ge : SO2 fr (rI0 fun i j => .bl (decide (j ≤ i))) zGe := so_int0 fun _ _ _ => .bl _
def zNeg : B → (B → Prop) → Prop := fun b k => match b with
  | .set (.int i) => k (.set (.int (-i)))
  | _ => False
theorem s_neg : SO1 fr (rU fun i => .int (-i)) zNeg := by
  intro F Γ T σ H Q k v1 b1 R kq h
  unfold zNeg at h
  split at h
  · rename_i i
    have e1 := zp_int (R.zp (j := 0) rfl rfl)
    exact ⟨i, e1, kq _ h _ H (R.sc fun _ => .int _)⟩
  · exact h.elim
/-- == and != of numbers, texts, bools -/
def zEq (f : Bool → Bool) : B → B → (B → Prop) → Prop := fun b1 b2 k => match b1, b2 with
  | .set (.int i), .set (.int j) => k (.set (.bl (f (decide (i = j)))))
  | .set (.str i), .set (.str j) => k (.set (.bl (f (decide (i = j)))))
  | .set (.bl i), .set (.bl j) => k (.set (.bl (f (decide (i = j)))))
  | .set (.int _), .set (.str _) => k (.set (.bl (f false)))
  | .set (.str _), .set (.int _) => k (.set (.bl (f false)))
  | _, _ => False
theorem eq_cases {b1 b2 : B} {k : B → Prop} {f : Bool → Bool} (h : zEq f b1 b2 k) : ∃ z1 z2, b1 = .set z1 ∧ b2 = .set z2 ∧ ∃ c, k (.set (.bl (f c))) ∧ ∀ K H v1 v2, Zp K H v1 z1 → Zp K H v2 z2 → scal v1 v2 = true ∧ decide (v1 = v2) = c := by
  unfold zEq at h
  split at h
  · exact ⟨_, _, rfl, rfl, _, h, fun K H v1 v2 p1 p2 => by rw [zp_int p1, zp_int p2]; exact ⟨rfl, by simp⟩⟩
  · exact ⟨_, _, rfl, rfl, _, h, fun K H v1 v2 p1 p2 => by rw [zp_str p1, zp_str p2]; exact ⟨rfl, by simp⟩⟩
  · exact ⟨_, _, rfl, rfl, _, h, fun K H v1 v2 p1 p2 => by rw [zp_bl p1, zp_bl p2]; exact ⟨rfl, by simp⟩⟩
  · exact ⟨_, _, rfl, rfl, _, h, fun K H v1 v2 p1 p2 => by rw [zp_int p1, zp_str p2]; exact ⟨rfl, by simp⟩⟩
  · exact ⟨_, _, rfl, rfl, _, h, fun K H v1 v2 p1 p2 => by rw [zp_str p1, zp_int p2]; exact ⟨rfl, by simp⟩⟩
  · exact h.elim
theorem s_eq : SO2 fr rEq (zEq id) := by
  intro F Γ T σ H Q k v1 v2 b1 b2 R kq h
  obtain ⟨z1, z2, rfl, rfl, c, hk, hp⟩ := eq_cases h
  obtain ⟨h1, h2⟩ := hp _ _ _ _ (R.zp (j := 0) rfl rfl) (R.zp (j := 1) rfl rfl)
  exact ⟨h1, kq _ hk _ H (R.sc fun _ => by rw [h2]; exact .bl _)⟩
theorem s_ne : SO2 fr rNe (zEq not) := by
  intro F Γ T σ H Q k v1 v2 b1 b2 R kq h
  obtain ⟨z1, z2, rfl, rfl, c, hk, hp⟩ := eq_cases h
  obtain ⟨h1, h2⟩ := hp _ _ _ _ (R.zp (j := 0) rfl rfl) (R.zp (j := 1) rfl rfl)
  exact ⟨h1, kq _ hk _ H (R.sc fun _ => by rw [h2]; exact .bl _)⟩
/-- is None -/
def isNon : Z → Bool
  | .non => true
  | _ => false
def zIsN (f : Bool → Bool) : B → B → (B → Prop) → Prop := fun b1 b2 k => match b1.z, b2 with
  | some z, .set .non => k (.set (.bl (f (isNon z))))
  | _, _ => False
theorem isn_cases {fr : Fr} {F : Hp} {Γ : G} {T : List (V × B)} {σ : L2.St} {H : Hp} {v1 v2 : V} {b1 b2 : B} {k : B → Prop} {f : Bool → Bool} (R : Rel fr F Γ (T ++ [(v1, b1), (v2, b2)]) σ H) (h : zIsN f b1 b2 k) : ∃ z, b1.z = some z ∧ k (.set (.bl (f (isNon z)))) ∧ v2 = .non ∧ decide (v1 = .non) = isNon z := by
  unfold zIsN at h
  split at h
  · rename_i z e
    refine ⟨z, e, h, zp_non (R.zp (j := 1) rfl rfl), ?_⟩
    have p := R.zp (j := 0) rfl e
    cases p <;> rfl
  · exact h.elim
theorem s_isN : SO2 fr (fun x y H Q => y = .non ∧ Q (.bl (decide (x = .non))) H) (zIsN id) := by
  intro F Γ T σ H Q k v1 v2 b1 b2 R kq h
  obtain ⟨z, e, hk, h2, h3⟩ := isn_cases R h
  exact ⟨h2, kq _ hk _ H (R.sc fun _ => by rw [h3]; exact .bl _)⟩
theorem s_notN : SO2 fr (fun x y H Q => y = .non ∧ Q (.bl (!decide (x = .non))) H) (zIsN not) := by
  intro F Γ T σ H Q k v1 v2 b1 b2 R kq h
  obtain ⟨z, e, hk, h2, h3⟩ := isn_cases R h
  exact ⟨h2, kq _ hk _ H (R.sc fun _ => by rw [h3]; exact .bl _)⟩
/-! ### tests -/
def zTest (z : ZE) : ZT := fun Γ k => z Γ fun b => match b with
  | .set (.bl c) => k c
  | _ => False
theorem z_test0 {t : TE} {z : ZE} (h : SE fr t z) {F : Hp} {Γ : G} {T : List (V × B)} {σ : L2.St} {H : Hp} {Q : Bool → Hp → Prop} {k : Bool → Prop} (R : Rel fr F Γ T σ H) (kq : ∀ b, k b → ∀ H', Rel fr F Γ T σ H' → Q b H') (q : zTest z Γ k) : t σ H fun x H' => ∃ c, x = .bl c ∧ Q c H' := by
  refine h F Γ T σ H _ _ R (fun b hb v H1 R1 => ?_) q
  split at hb
  · rename_i c
    exact ⟨c, zp_bl (Rel.zp R1 (j := 0) rfl rfl), kq _ hb _ R1.drop⟩
  · exact hb.elim
theorem z_tB {t : TE} {z : ZE} (h : SE fr t z) : ST fr (tB t) (zTest z) := fun F Γ T σ H Q k R kq q => z_test0 h R kq q
theorem z_tTest {t : TE} {z : ZE} (h : SE fr t z) : ST fr (tTest t) (zTest z) := fun F Γ T σ H Q k R kq q => z_test0 h R kq q
def zNot (z : ZT) : ZT := fun Γ k => z Γ fun c => k (!c)
theorem z_tNot {t : TT} {z : ZT} (h : ST fr t z) : ST fr (tNot t) (zNot z) := fun F Γ T σ H Q k R kq q => h F Γ T σ H _ _ R (fun b hb H1 R1 => kq _ hb H1 R1) q
/-- by the two ways -/
structure zite (c : Bool) (A B : Prop) : Prop where
  t : c = true → A
  f : c = false → B
theorem zite_t {c : Bool} {A B : Prop} (h : c = true) (a : A) : zite c A B := ⟨fun _ => a, fun z => by rw [h] at z; cases z⟩
theorem zite_f {c : Bool} {A B : Prop} (h : c = false) (b : B) : zite c A B := ⟨fun z => by (rw [h] at z; cases z), fun _ => b⟩
theorem zite_d {p : Prop} [Decidable p] {A B : Prop} (a : p → A) (b : ¬ p → B) : zite (decide p) A B := ⟨fun h => a (of_decide_eq_true h), fun h => b (of_decide_eq_false h)⟩
theorem zite_n {p : Prop} [Decidable p] {A B : Prop} (a : ¬ p → A) (b : p → B) : zite (!decide p) A B := ⟨fun h => a (by simpa using h), fun h => b (by simpa using h)⟩
def zAnd (a b : ZT) : ZT := fun Γ k => a Γ fun c => zite c (b Γ k) (k false)
def zOr (a b : ZT) : ZT := fun Γ k => a Γ fun c => zite c (k true) (b Γ k)
theorem z_tAnd {t u : TT} {a b : ZT} (h1 : ST fr t a) (h2 : ST fr u b) : ST fr (tAnd t u) (zAnd a b) := fun F Γ T σ H Q k R kq q => h1 F Γ T σ H _ _ R (fun c hc H1 R1 => by
  cases c with
  | true => exact h2 F Γ T σ H1 _ _ R1 kq (hc.1 rfl)
  | false => exact kq _ (hc.2 rfl) H1 R1) q
theorem z_tOr {t u : TT} {a b : ZT} (h1 : ST fr t a) (h2 : ST fr u b) : ST fr (tOr t u) (zOr a b) := fun F Γ T σ H Q k R kq q => h1 F Γ T σ H _ _ R (fun c hc H1 R1 => by
  cases c with
  | true => exact kq _ (hc.1 rfl) H1 R1
  | false => exact h2 F Γ T σ H1 _ _ R1 kq (hc.2 rfl)) q
/-- and, or, not as values (of bools) -/
def zAndV (a b : ZE) : ZE := fun Γ k => a Γ fun x => match x with
  | .set (.bl c) => zite c (b Γ k) (k (.set (.bl false)))
  | _ => False
def zOrV (a b : ZE) : ZE := fun Γ k => a Γ fun x => match x with
  | .set (.bl c) => zite c (k (.set (.bl true))) (b Γ k)
  | _ => False
def zNotV (a : ZE) : ZE := fun Γ k => a Γ fun x => match x with
  | .set (.bl c) => k (.set (.bl (!c)))
  | _ => False
theorem z_andV {t u : TE} {a b : ZE} (h1 : SE fr t a) (h2 : SE fr u b) : SE fr (tAndV t u) (zAndV a b) := fun F Γ T σ H Q k R kq q => h1 F Γ T σ H _ _ R (fun x hx v H1 R1 => by
  split at hx
  · rename_i c
    refine ⟨c, zp_bl (Rel.zp R1 (j := 0) rfl rfl), ?_⟩
    cases c with
    | true => exact h2 F Γ T σ H1 _ _ R1.drop kq (hx.1 rfl)
    | false => exact kq _ (hx.2 rfl) _ H1 (Rel.sc R1 fun _ => .bl _)
  · exact hx.elim) q
theorem z_orV {t u : TE} {a b : ZE} (h1 : SE fr t a) (h2 : SE fr u b) : SE fr (tOrV t u) (zOrV a b) := fun F Γ T σ H Q k R kq q => h1 F Γ T σ H _ _ R (fun x hx v H1 R1 => by
  split at hx
  · rename_i c
    refine ⟨c, zp_bl (Rel.zp R1 (j := 0) rfl rfl), ?_⟩
    cases c with
    | true => exact kq _ (hx.1 rfl) _ H1 (Rel.sc R1 fun _ => .bl _)
    | false => exact h2 F Γ T σ H1 _ _ R1.drop kq (hx.2 rfl)
  · exact hx.elim) q
theorem z_notV {t : TE} {a : ZE} (h1 : SE fr t a) : SE fr (tNotV t) (zNotV a) := fun F Γ T σ H Q k R kq q => h1 F Γ T σ H _ _ R (fun x hx v H1 R1 => by
  split at hx
  · rename_i c
    exact ⟨c, zp_bl (Rel.zp R1 (j := 0) rfl rfl), kq _ hx _ H1 (Rel.sc R1 fun _ => .bl _)⟩
  · exact hx.elim) q
def zIf (c : ZT) (a b : ZE) : ZE := fun Γ k => c Γ fun x => zite x (a Γ k) (b Γ k)
theorem z_ifE {tc : TT} {t u : TE} {c : ZT} {a b : ZE} (h0 : ST fr tc c) (h1 : SE fr t a) (h2 : SE fr u b) : SE fr (tIf tc t u) (zIf c a b) := fun F Γ T σ H Q k R kq q => h0 F Γ T σ H _ _ R (fun x hx H1 R1 => by
  cases x with
  | true => exact h1 F Γ T σ H1 _ _ R1 kq (hx.1 rfl)
  | false => exact h2 F Γ T σ H1 _ _ R1 kq (hx.2 rfl)) q
/-- numbers: both links are tests of numbers -/
def zCh (f g : Int → Int → Bool) (za zb zc : ZE) : ZE := fun Γ k => za Γ fun b1 => zb Γ fun b2 => match b1, b2 with
  | .set (.int i), .set (.int j) => zite (f i j) (zc Γ fun b3 => match b3 with
    | .set (.int l) => k (.set (.bl (g j l)))
    | _ => False) (k (.set (.bl false)))
  | _, _ => False
theorem z_chain {f g : Int → Int → Bool} {ta tb tc : TE} {za zb zc : ZE} (h1 : SE fr ta za) (h2 : SE fr tb zb) (h3 : SE fr tc zc) : SE fr (tChain (rI0 fun i j => .bl (f i j)) (rI0 fun i j => .bl (g i j)) ta tb tc) (zCh f g za zb zc) := by
  intro F Γ T σ H Q k R kq q
  refine h1 F Γ T σ H _ _ R (fun b1 q1 v1 H1 R1 => ?_) q
  refine h2 F Γ _ σ H1 _ _ R1 (fun b2 q2 v2 H2 R2 => ?_) q1
  rw [List.append_assoc] at R2
  split at q2
  · rename_i i j
    refine ⟨i, j, zp_int (R2.zp (j := 0) rfl rfl), zp_int (R2.zp (j := 1) rfl rfl), f i j, rfl, ?_⟩
    cases e : f i j with
    | true =>
      refine h3 F Γ _ σ H2 _ _ R2 (fun b3 q3 v3 H3 R3 => ?_) (q2.1 e)
      rw [List.append_assoc] at R3
      split at q3
      · rename_i l
        exact ⟨j, l, zp_int (R3.zp (j := 1) rfl rfl), zp_int (R3.zp (j := 2) rfl rfl), kq _ q3 _ H3 (R3.sc fun _ => .bl _)⟩
      · exact q3.elim
    | false =>
      exact kq _ (q2.2 e) _ H2 (R2.sc fun _ => .bl _)
  · exact q2.elim
/-! ### statements -/
def zDrop (z : ZE) : ZS := fun D Γ => z Γ fun _ => D.nx Γ
theorem z_expr {t : TE} {z : ZE} (h : SE fr t z) : SS fr (tDrop t) (zDrop z) := fun F Γ σ H zD D R hD q => h F Γ [] σ H _ _ R (fun b hb v H1 R1 => hD.nx _ _ _ R1.nil hb) q
def zRet (z : ZE) : ZS := fun D Γ => z Γ fun b => D.rt Γ b
theorem z_ret {t : TE} {z : ZE} (h : SE fr t z) : SS fr (tRet t) (zRet z) := fun F Γ σ H zD D R hD q => h F Γ [] σ H _ _ R (fun b hb v H1 R1 => hD.rt _ _ _ _ _ R1 hb) q
def zRetN : ZS := fun D Γ => D.rt Γ (.set .non)
theorem z_retN : SS fr tRetN zRetN := fun F Γ σ H zD D R hD q => hD.rt _ _ _ _ _ (Rel.sc (T := []) (A := []) R fun _ => .non) q
def zIfS (c : ZT) (a b : ZS) : ZS := fun D Γ => c Γ fun x => zite x (a D Γ) (b D Γ)
theorem z_if {tc : TT} {t u : TS} {c : ZT} {a b : ZS} (h0 : ST fr tc c) (h1 : SS fr t a) (h2 : SS fr u b) : SS fr (tIfS tc t u) (zIfS c a b) := fun F Γ σ H zD D R hD q => h0 F Γ [] σ H _ _ R (fun x hx H1 R1 => by
  cases x with
  | true => exact h1 F Γ σ H1 _ _ R1 hD (hx.1 rfl)
  | false => exact h2 F Γ σ H1 _ _ R1 hD (hx.2 rfl)) q
def zNext : ZS := fun D Γ => D.nx Γ
theorem z_nil : SS fr tNext zNext := fun F Γ σ H zD D R hD q => hD.nx _ _ _ R q
def zSeq (a b : ZS) : ZS := fun D Γ => a { D with nx := b D } Γ
theorem z_cons {t u : TS} {a b : ZS} (h1 : SS fr t a) (h2 : SS fr u b) : SS fr (tSeq t u) (zSeq a b) := fun F Γ σ H zD D R hD q => h1 F Γ σ H { zD with nx := b zD } { D with nx := u D } R
  ⟨fun Γ' σ' H' R' q' => h2 F Γ' σ' H' zD D R' hD q', hD.bk, hD.ct, hD.rt⟩ q
structure CutP (a b : ZS) (D : ZEnds) (Γ : G) : Prop where
  ex : ∃ M : G → Prop, a { D with nx := M } Γ ∧ ∀ Γ', M Γ' → b D Γ'
theorem CutP.mid {a b : ZS} {D : ZEnds} {Γ : G} (M : G → Prop) (h1 : a { D with nx := M } Γ) (h2 : ∀ Γ', M Γ' → b D Γ') : CutP a b D Γ := ⟨M, h1, h2⟩
def zCut (a b : ZS) : ZS := fun D Γ => CutP a b D Γ
theorem z_cut {t u : TS} {a b : ZS} (h1 : SS fr t a) (h2 : SS fr u b) : SS fr (C8.tCut t u) (zCut a b) := fun F Γ σ H zD D R hD ⟨M, q1, q2⟩ => by
  refine ⟨fun σ' H' => ∃ Γ', Rel fr F Γ' [] σ' H' ∧ M Γ', ?_, ?_⟩
  · exact h1 F Γ σ H { zD with nx := M } { D with nx := fun σ' H' => ∃ Γ', Rel fr F Γ' [] σ' H' ∧ M Γ' } R ⟨fun Γ' σ' H' R' q' => ⟨Γ', R', q'⟩, hD.bk, hD.ct, hD.rt⟩ q1
  · rintro σ' H' ⟨Γ', R', q'⟩
    exact h2 F Γ' σ' H' zD D R' hD (q2 Γ' q')
def zBreak : ZS := fun D Γ => D.bk Γ
def zCont : ZS := fun D Γ => D.ct Γ
theorem z_break : SS fr tBreak zBreak := fun F Γ σ H zD D R hD q => hD.bk _ _ _ R q
theorem z_cont : SS fr tCont zCont := fun F Γ σ H zD D R hD q => hD.ct _ _ _ R q
/-! ### stores to names -/
theorem slot_set {Γ : G} {i j : Nat} {b c : B} (h : (Γ.set i (some b))[j]? = some (some c)) : (j = i ∧ c = b ∧ i < Γ.length) ∨ (j ≠ i ∧ Γ[j]? = some (some c)) := by
  rw [List.getElem?_set] at h
  by_cases e : i = j
  · subst e
    rw [if_pos rfl] at h
    split at h
    · rename_i hl
      exact .inl ⟨rfl, (Option.some.inj (Option.some.inj h)).symm, hl⟩
    · cases h
  · rw [if_neg e] at h
    exact .inr ⟨fun z => e z.symm, h⟩
/-- the last temporary one becomes a name's -/
theorem Rel.store {v : V} {b : B} (R : Rel fr F Γ (T ++ [(v, b)]) σ H) (i : Nat) (hb : b.brw = false) : Rel fr F (Γ.set i (some b)) T (σ.set i (some v)) H := by
  obtain ⟨S, R⟩ := R
  have hv := R.tm T.length v b (by rw [List.getElem?_append_right (by omega), Nat.sub_self]; rfl)
  let S' : Addr → Own := fun x => match S x with
    | .tmp j => if j = T.length then .slot i else .tmp j
    | y => y
  have s1 : ∀ x, S x = .set → S' x = .set := fun x h => by show (match S x with | .tmp j => _ | y => y) = _; rw [h]
  have s0 : ∀ x, S x = .drw → S' x = .drw := fun x h => by show (match S x with | .tmp j => _ | y => y) = _; rw [h]
  have s2 : ∀ x j, S x = .slot j → S' x = .slot j := fun x j h => by show (match S x with | .tmp j => _ | y => y) = _; rw [h]
  have s3 : ∀ x j, j ≠ T.length → S x = .tmp j → S' x = .tmp j := fun x j n h => by show (match S x with | .tmp j => _ | y => y) = _; rw [h]; exact if_neg n
  have s4 : ∀ x, S x = .tmp T.length → S' x = .slot i := fun x h => by show (match S x with | .tmp j => _ | y => y) = _; rw [h]; exact if_pos rfl
  have inv : ∀ x, S' x = S x ∨ (S x = .tmp T.length ∧ S' x = .slot i) := fun x => by
    cases h : S x with
    | tmp j =>
      by_cases n : j = T.length
      · subst n
        exact .inr ⟨rfl, s4 x h⟩
      · exact .inl (s3 x j n h)
    | set => exact .inl (s1 x h)
    | drw => exact .inl (s0 x h)
    | slot j => exact .inl (s2 x j h)
    | out => exact .inl (by show (match S x with | .tmp j => _ | y => y) = _; rw [h])
  have up : Le (vw S H (eqO .set)) (vw S' H (eqO .set)) := vw_le fun x o e n c => ⟨e, c.imp id fun c => decide_eq_true (s1 x (of_decide_eq_true c))⟩
  refine ⟨S', ⟨fun x o e => up x o (R.go.up x o e), R.go.keep, R.go.there, fun x o e h => ?_, fun x j h => ?_, fun x j h => ?_, fun x h => ?_, R.go.tabs⟩, fun x o e => up x o (R.f x o e), by rw [List.length_set, List.length_set]; exact R.len, fun j c h => ?_, fun j w c h => ?_, fun j c h => ?_⟩
  · rcases inv x with q | ⟨_, q⟩
    · exact R.go.new x o e (q ▸ h)
    · rw [q] at h; cases h
  · rcases inv x with q | ⟨q, _⟩
    · exact R.go.ownS x j (q ▸ h)
    · exact .inl (R.go.ownT x _ q)
  · rcases inv x with q | ⟨_, q⟩
    · exact R.go.ownT x j (q ▸ h)
    · rw [q] at h; cases h
  · rcases inv x with q | ⟨_, q⟩
    · exact R.go.ownD x (q ▸ h)
    · rw [q] at h; cases h
  · rcases slot_set h with ⟨rfl, rfl, hl⟩ | ⟨hj, h⟩
    · refine ⟨v, ?_, hv.move (fun x o e n _ => e) (fun x _ h => s0 x h) (fun x _ h => s1 x h) (fun x _ h => s4 x h) (fun st is z e => by rw [e] at hb; cases hb) fun i s e => by rw [e] at hb; cases hb⟩
      rw [List.getElem?_set_self (by rw [← R.len]; exact hl)]
    · obtain ⟨w, h1, h2⟩ := R.sl j c h
      refine ⟨w, ?_, h2.move (fun x o e n _ => e) (fun x _ h => s0 x h) (fun x _ h => s1 x h) (fun x _ h => s2 x j h) (fun st is z _ i _ x _ h => .inl (s2 x i h)) fun i s _ x _ h => s2 x i h⟩
      rw [List.getElem?_set_ne (fun z => hj z.symm)]
      exact h1
  · have hj : j < T.length := no_of_tup h
    refine (R.tm j w c (by rw [List.getElem?_append_left hj]; exact h)).move (fun x o e n _ => e) (fun x _ h => s0 x h) (fun x _ h => s1 x h) (fun x _ h => s3 x j (by omega) h) (fun st is z _ i _ x _ h => .inl (s2 x i h)) fun i s _ x _ h => s2 x i h
  · rcases slot_set h with ⟨_, e, _⟩ | ⟨_, h⟩
    · rw [e]; exact hb
    · exact R.nb j c h
/-- all of a temporary one is settled -/
def B.settle : B → Option Z
  | .set z => some z
  | .own z => some z
  | .frs z => some z
  | .two r => some r.z
  | _ => none
theorem B.P.settle {K : PySem.W.Frag} {S S' : Addr → Own} {H H' : Hp} {me : Own} {v : V} {b : B} {z : Z} (h : b.P K S H me v) (e : b.settle = some z) (hk : ∀ x o, H x = some o → isTbl o = false → H' x = some o) (hs : ∀ x, H x ≠ none → S x = .set → S' x = .set) (hm : ∀ x, H x ≠ none → S x = me → S' x = .set) : Zp K (vw S' H' (eqO .set)) v z := by
  have key : Le (vw S H (fun o => decide (o = .set) || decide (o = me))) (vw S' H' (eqO .set)) := vw_le fun x o e n c => ⟨hk x o e n, c.imp id fun c => by
    have c : (decide (S x = .set) || decide (S x = me)) = true := c
    rw [Bool.or_eq_true] at c
    exact decide_eq_true (c.elim (fun c => hs x (by rw [e]; simp) (of_decide_eq_true c)) fun c => hm x (by rw [e]; simp) (of_decide_eq_true c))⟩
  cases b with
  | set y => cases e; exact (Zp.up (vw_mono fun o q => by rw [of_decide_eq_true q]; rfl) h).up key
  | own y => cases e; exact (OwnP.all (p := fun o => decide (o = .set) || decide (o = me)) rfl (by simp) h).up key
  | frs y => cases e; exact (Zp.up (vw_mono fun o q => by rw [of_decide_eq_true q]; simp) h).up key
  | two r => cases e; exact (TwoP.all (p := fun o => decide (o = .set) || decide (o = me)) rfl (by simp) h).up key
  | _ => cases e
theorem Rel.settle {v : V} {b : B} {z : Z} (R : Rel fr F Γ (T ++ [(v, b)]) σ H) (e : b.settle = some z) : Rel fr F Γ (T ++ [(v, B.set z)]) σ H := by
  obtain ⟨S, R⟩ := R
  have hv := R.tm T.length v b (by rw [List.getElem?_append_right (by omega), Nat.sub_self]; rfl)
  exact ⟨_, R.ext (R.go.retm T.length (.inl rfl)) (fun _ _ e _ => e) (fun _ _ h => retm_drw h) (fun _ _ h => retm_set h) (fun _ _ _ h => retm_slot h) (fun _ _ _ hj h => retm_lo hj h) (b := .set z)
    (B.P.settle hv e (fun _ _ e _ => e) (fun _ _ h => retm_set h) (fun _ _ h => retm_hi (Nat.le_refl _) h))⟩
theorem Rel.immB {v : V} {b : B} {z : Z} (R : Rel fr F Γ (T ++ [(v, b)]) σ H) (e : b.z = some z) (hi : z.imm = true) : Rel fr F Γ (T ++ [(v, B.set z)]) σ H := by
  obtain ⟨S, R, p⟩ := R.tmp (j := 0) rfl e
  exact ⟨S, R.same (b := .set z) (p.imm vw_tup hi)⟩
/-- a value that is taken as settled -/
def B.tk : B → (Z → Prop) → Prop
  | .set z, k => k z
  | .own z, k => k z
  | .frs z, k => k z
  | .two r, k => k r.z
  | .bor _ _ z, k => z.imm = true ∧ k z
  | _, _ => False
theorem Rel.tk {v : V} {b : B} {k : Z → Prop} (R : Rel fr F Γ (T ++ [(v, b)]) σ H) (h : b.tk k) : ∃ z, k z ∧ Rel fr F Γ (T ++ [(v, B.set z)]) σ H := by
  cases b with
  | set z => exact ⟨z, h, R⟩
  | own z => exact ⟨z, h, R.settle rfl⟩
  | frs z => exact ⟨z, h, R.settle rfl⟩
  | two r => exact ⟨r.z, h, R.settle rfl⟩
  | bor st is z => exact ⟨z, h.2, R.immB rfl h.1⟩
  | _ => exact h.elim
/-- x = e, the value being settled -/
def zSet (i : Nat) (z : ZE) : ZS := fun D Γ => z Γ fun b => b.tk fun y => D.nx (Γ.set i (some (.set y)))
def zName (i : Nat) : ZG := fun b Γ k => b.tk fun y => k (Γ.set i (some (.set y)))
theorem zg_name (i : Nat) : SG fr (gName i) (zName i) := by
  intro F Γ T σ H v b Q k R kq q
  obtain ⟨z, hk, R⟩ := R.tk q
  exact kq _ hk _ _ (R.store i rfl)
theorem z_set {t : TE} {z : ZE} (i : Nat) (h : SE fr t z) : SS fr (tAsg t (gName i)) (zSet i z) := fun F Γ σ H zD D R hD q =>
  h F Γ [] σ H _ _ R (fun b hb v H1 R1 => zg_name i F Γ [] σ H1 v b _ _ R1 (fun Γ' q' σ' H' R' => hD.nx Γ' σ' H' R' q') hb) q
/-- x = e, the value staying one's own -/
def B.kp : B → (B → Prop) → Prop
  | .bor _ _ z, k => z.imm = true ∧ k (.set z)
  | .bwl _ _, _ => False
  | b, k => k b
def zKeep (i : Nat) (z : ZE) : ZS := fun D Γ => z Γ fun b => b.kp fun b => D.nx (Γ.set i (some b))
theorem z_keep {t : TE} {z : ZE} (i : Nat) (h : SE fr t z) : SS fr (tAsg t (gName i)) (zKeep i z) := fun F Γ σ H zD D R hD q =>
  h F Γ [] σ H _ _ R (fun b hb v H1 R1 => by
    have R1 : Rel fr F Γ ([] ++ [(v, b)]) σ H1 := R1
    have key : ∀ c : B, c.brw = false → Rel fr F Γ ([] ++ [(v, c)]) σ H1 → zD.nx (Γ.set i (some c)) → D.nx (σ.set i (some v)) H1 := fun c hc R2 hx => hD.nx _ _ _ (R2.store i hc) hx
    cases b with
    | bor st is z => exact key (.set z) rfl (R1.immB rfl hb.1) hb.2
    | set z => exact key (.set z) rfl R1 hb
    | own z => exact key (.own z) rfl R1 hb
    | frs z => exact key (.frs z) rfl R1 hb
    | drw z => exact key (.drw z) rfl R1 hb
    | dead => exact key .dead rfl R1 hb
    | wld s => exact key (.wld s) rfl R1 hb
    | two r => exact key (.two r) rfl R1 hb
    | bwl i s => exact hb.elim) q
/-- target = e -/
def zAsg (z : ZE) (g : ZG) : ZS := fun D Γ => z Γ fun b => g b Γ D.nx
theorem z_asg {t : TE} {z : ZE} {g : TG} {zg : ZG} (h : SE fr t z) (hg : SG fr g zg) : SS fr (tAsg t g) (zAsg z zg) := fun F Γ σ H zD D R hD q =>
  h F Γ [] σ H _ _ R (fun b hb v H1 R1 => hg F Γ [] σ H1 v b _ _ R1 (fun Γ' q' σ' H' R' => hD.nx Γ' σ' H' R' q') hb) q
/-- a, b = x, y -/
def zPar (i j : Nat) (z : ZA) : ZS := fun D Γ => z Γ fun bs => match bs with
  | [b, c] => b.tk fun x => c.tk fun y => D.nx ((Γ.set i (some (.set x))).set j (some (.set y)))
  | _ => False
/-- a name that is added to -/
def zAug (i : Nat) (z : ZE) (f : Int → Int → Int) : ZS := fun D Γ => match Γ[i]? with
  | some (some (.set (.int x))) => z Γ fun b => match b with
    | .set (.int y) => D.nx (Γ.set i (some (.set (.int (f x y)))))
    | _ => False
  | _ => False
end
end Rt

namespace Rt
open PySem PySem.Spec PyProof.Rows L2 RZ
/-! ### events: what is good -/
def withinV (v : V) (lo hi : Int) : Bool := match v with
  | .int z => decide (lo ≤ z) && decide (z ≤ hi)
  | _ => false
def signsS : Str := "abcdefghijklmnopqrstuvwxyz0123456789 "
def textOk (v : V) : Bool := match v with
  | .str s => decide (s.length ≤ 12) && s.cps.toList.all (fun c => decide (c ∈ signsS.cps.toList))
  | _ => false
def wordB (w : Str) : Option (List (Int × Int)) :=
  if w = "on" then some [(0, 15), (0, 127), (1, 127)] else if w = "off" then some [(0, 15), (0, 127), (0, 127)] else if w = "knob" then some [(0, 15), (0, 127), (0, 127)] else if w = "voice" then some [(0, 15), (0, 127)] else none
def withinAll : List V → List (Int × Int) → Bool
  | [], [] => true
  | v :: vs, b :: bs => withinV v b.1 b.2 && withinAll vs bs
  | _, _ => false
def markOk : List V → Bool
  | [x] => textOk x
  | _ => false
def wordOk (o : Option (List (Int × Int))) (r : List V) : Bool := match o with
  | some bs => withinAll r bs
  | none => false
def thingOk : List V → Bool
  | .str w :: r => if w = "mark" then markOk r else wordOk (wordB w) r
  | _ => false
theorem thing_mark (r : List V) : thingOk (.str "mark" :: r) = markOk r := by
  show (if ("mark" : Str) = "mark" then markOk r else wordOk (wordB "mark") r) = _
  rw [if_pos rfl]
theorem thing_word {z : Str} (h : ¬ z = "mark") (r : List V) : thingOk (.str z :: r) = wordOk (wordB z) r := by
  show (if z = "mark" then markOk r else wordOk (wordB z) r) = _
  rw [if_neg h]
theorem wordB_len {z : Str} {bs : List (Int × Int)} (hb : wordB z = some bs) : bs.length ≤ 10 := by
  unfold wordB at hb
  split at hb
  · cases hb; decide
  split at hb
  · cases hb; decide
  split at hb
  · cases hb; decide
  split at hb
  · cases hb; decide
  · cases hb
def isEv : List V → Bool
  | t :: r => withinV t 0 999999 && thingOk r
  | [] => false
/-- a number or a text of moderate size -/
def Scal (v : V) : Prop := (∃ z, v = .int z) ∨ ∃ s : Str, v = .str s ∧ s.length ≤ 1000
theorem withinAll_len : ∀ (vs : List V) (bs : List (Int × Int)), withinAll vs bs = true → vs.length = bs.length
  | [], [], _ => rfl
  | v :: vs, b :: bs, h => by
    have h' : (withinV v b.1 b.2 && withinAll vs bs) = true := h
    rw [Bool.and_eq_true] at h'
    rw [List.length_cons, List.length_cons, withinAll_len vs bs h'.2]
  | [], b :: bs, h => nomatch h
  | v :: vs, [], h => nomatch h
theorem withinAll_zip : ∀ (vs : List V) (bs : List (Int × Int)), vs.length = bs.length → withinAll vs bs = (vs.zip bs).all fun p => withinV p.1 p.2.1 p.2.2
  | [], [], _ => rfl
  | v :: vs, b :: bs, h => by
    show (withinV v b.1 b.2 && withinAll vs bs) = (withinV v b.1 b.2 && (vs.zip bs).all _)
    rw [withinAll_zip vs bs (by simpa using h)]
  | [], b :: bs, h => by simp at h
  | v :: vs, [], h => by simp at h
/-! ### `in` of a written dict with text keys, for numbers too -/
theorem mapOfM_K {prog : Program} {w : World} {K : PySem.W.Frag} {h : Heap} {a : Addr} {es : Array DictEntry} {n : Nat} (X : K.In h) (hl : K.lookup a = some ⟨.type "dict", none, .dict es n, #[]⟩) (hk : PySem.W.KeysLit w.params es.toList) :
    h.MapOf (mixKind prog w) a (fun k => findBy keyIs es k) :=
  ⟨_, es, n, X _ _ hl, ⟨rfl, rfl, rfl⟩, rfl, fun e he => by
    obtain ⟨x, t, e1, e2⟩ := hk.all e (Array.mem_toList_iff.mpr he)
    exact ⟨.inr x, by rw [e1]; exact keyIs_str x t, e2⟩, fun _ => rfl⟩
theorem findM_int {P : Params} {es : Array DictEntry} (hk : PySem.W.KeysLit P es.toList) (i : Int) : findBy keyIs es (.inl i) = none := by
  obtain ⟨l⟩ := es
  unfold findBy
  rw [List.find?_toArray]
  have : l.find? (fun d => keyIs (.inl i) d.key) = none := List.find?_eq_none.mpr fun e he => by
    obtain ⟨x, t, e1, _⟩ := hk.all e he
    rw [e1]
    simp [keyIs, Value.isInt]
  rw [this]
  rfl
theorem findM_str {es : Array DictEntry} (x : Str) : findBy keyIs es (.inr x) = findBy Value.isStrOf es x := rfl
def rInM (K : PySem.W.Frag) (w : World) : R2 := fun x y H Q => ∃ d es n, y = .ref d ∧ K.lookup d = some ⟨.type "dict", none, .dict es n, #[]⟩ ∧ PySem.W.KeysLit w.params es.toList ∧ (d == sysModules) = false ∧
  ((∃ i, x = .int i ∧ Q (.bl false) H) ∨ ∃ z r, x = .str z ∧ PySem.W.nsIn K d z = some r ∧ Q (.bl r.isSome) H)
theorem op_inM {X : Cx} : OpR X (compareOp .In) (rInM X.K X.w) := by
  intro pins s σ H x y v u Q I rx ry h
  obtain ⟨d, es, n, rfl, hl, hk, low, h⟩ := h
  cases ry
  have hm := mapOfM_K (prog := X.prog) (w := X.w) I.kIn hl hk
  rcases h with ⟨i, rfl, q⟩ | ⟨z, r, rfl, e, q⟩
  · obtain ⟨t, rfl⟩ := rx
    refine wpAny_in_of (knd := mixKind X.prog X.w) (k := .inl i) (keyIs_int i t) low hm ?_
    rw [findM_int hk]
    exact ⟨.bl false, H, I.tok _, rfl, q⟩
  · obtain ⟨t, rfl⟩ := rx
    refine wpAny_in_of (knd := mixKind X.prog X.w) (k := .inr z) (keyIs_str z t) low hm ?_
    rw [findM_str, PySem.W.find_K hl e]
    exact ⟨.bl r.isSome, H, I.tok _, rfl, q⟩
/-! ### the program's table of bounds -/
/-- at v: a written tuple of pairs -/
def PrsK (K : PySem.W.Frag) (v : Addr) (bs : List (Int × Int)) : Prop := ∃ ps : List Addr, (∀ H, SqT K H v (ps.map V.ref)) ∧ ps.length = bs.length ∧ ∀ (i : Nat) (p : Addr) (b : Int × Int), ps[i]? = some p → bs[i]? = some b → ∀ H, SqT K H p [.int b.1, .int b.2]
structure BoundsK (K : PySem.W.Frag) (w : World) (d : Addr) : Prop where
  at_ : ∃ es n, K.lookup d = some ⟨.type "dict", none, .dict es n, #[]⟩ ∧ PySem.W.KeysLit w.params es.toList ∧ (d == sysModules) = false
  no : ∀ z, wordB z = none → PySem.W.nsIn K d z = some none
  yes : ∀ z bs, wordB z = some bs → ∃ v, PySem.W.nsIn K d z = some (some (.ref v)) ∧ PrsK K v bs
theorem sqt_K {K : PySem.W.Frag} {v : Addr} {od : Option Addr} {xs : List V} {its : Array Value} {n : Nat} {sl : Array (Option Value)} (l : K.lookup v = some ⟨.type "tuple", od, .seq its n, sl⟩) (hz : its.size ≤ 1000) (r : Vals xs its.toList) (H : Hp) : SqT K H v xs :=
  .inr ⟨_, its, n, l, rfl, rfl, mem_sz (Nat.le_trans hz (by decide)), r⟩
theorem pr_K {K : PySem.W.Frag} {v : Addr} {od : Option Addr} {a b : Int} {t u : Tok} {n : Nat} {sl : Array (Option Value)} (l : K.lookup v = some ⟨.type "tuple", od, .seq #[.int a t, .int b u] n, sl⟩) (H : Hp) : SqT K H v [.int a, .int b] :=
  sqt_K (xs := [.int a, .int b]) l (by show 2 ≤ 1000; decide) (.cons ⟨_, rfl⟩ (.cons ⟨_, rfl⟩ .nil)) H
theorem prs3_K {K : PySem.W.Frag} {v p1 p2 p3 : Addr} {od : Option Addr} {n : Nat} {sl : Array (Option Value)} {b1 b2 b3 : Int × Int} (l : K.lookup v = some ⟨.type "tuple", od, .seq #[.ref p1, .ref p2, .ref p3] n, sl⟩) (h1 : ∀ H, SqT K H p1 [.int b1.1, .int b1.2]) (h2 : ∀ H, SqT K H p2 [.int b2.1, .int b2.2]) (h3 : ∀ H, SqT K H p3 [.int b3.1, .int b3.2]) :
    PrsK K v [b1, b2, b3] := ⟨[p1, p2, p3], fun H => sqt_K (xs := [V.ref p1, V.ref p2, V.ref p3]) l (by show 3 ≤ 1000; decide) (.cons rfl (.cons rfl (.cons rfl .nil))) H, rfl, fun i p b hp hb => by
      match i, hp, hb with
      | 0, hp, hb => cases hp; cases hb; exact h1
      | 1, hp, hb => cases hp; cases hb; exact h2
      | 2, hp, hb => cases hp; cases hb; exact h3
      | i + 3, hp, hb => simp at hp⟩
theorem prs2_K {K : PySem.W.Frag} {v p1 p2 : Addr} {od : Option Addr} {n : Nat} {sl : Array (Option Value)} {b1 b2 : Int × Int} (l : K.lookup v = some ⟨.type "tuple", od, .seq #[.ref p1, .ref p2] n, sl⟩) (h1 : ∀ H, SqT K H p1 [.int b1.1, .int b1.2]) (h2 : ∀ H, SqT K H p2 [.int b2.1, .int b2.2]) :
    PrsK K v [b1, b2] := ⟨[p1, p2], fun H => sqt_K (xs := [V.ref p1, V.ref p2]) l (by show 2 ≤ 1000; decide) (.cons rfl (.cons rfl .nil)) H, rfl, fun i p b hp hb => by
      match i, hp, hb with
      | 0, hp, hb => cases hp; cases hb; exact h1
      | 1, hp, hb => cases hp; cases hb; exact h2
      | i + 2, hp, hb => simp at hp⟩
theorem bounds_mk {K : PySem.W.Frag} {w : World} {d : Addr} {n : Nat} {h1 h2 h3 h4 : Int} {t1 t2 t3 t4 : Tok} {v1 v2 v3 v4 : Addr}
    (l : K.lookup d = some ⟨.type "dict", none, .dict #[⟨h1, .str "on" t1, .ref v1⟩, ⟨h2, .str "off" t2, .ref v2⟩, ⟨h3, .str "knob" t3, .ref v3⟩, ⟨h4, .str "voice" t4, .ref v4⟩] n, #[]⟩)
    (k1 : h1 = PyData.keyHash w.params "on") (k2 : h2 = PyData.keyHash w.params "off") (k3 : h3 = PyData.keyHash w.params "knob") (k4 : h4 = PyData.keyHash w.params "voice") (low : (d == sysModules) = false)
    (n1 : PySem.W.nsIn K d "on" = some (some (.ref v1))) (n2 : PySem.W.nsIn K d "off" = some (some (.ref v2))) (n3 : PySem.W.nsIn K d "knob" = some (some (.ref v3))) (n4 : PySem.W.nsIn K d "voice" = some (some (.ref v4)))
    (p1 : PrsK K v1 [(0, 15), (0, 127), (1, 127)]) (p2 : PrsK K v2 [(0, 15), (0, 127), (0, 127)]) (p3 : PrsK K v3 [(0, 15), (0, 127), (0, 127)]) (p4 : PrsK K v4 [(0, 15), (0, 127)]) : BoundsK K w d where
  at_ := ⟨_, n, l, ⟨⟨_, _, rfl, k1⟩, ⟨_, _, rfl, k2⟩, ⟨_, _, rfl, k3⟩, ⟨_, _, rfl, k4⟩, True.intro⟩, low⟩
  no := fun z hz => by
    unfold wordB at hz
    by_cases e1 : z = "on"
    · rw [if_pos e1] at hz; cases hz
    rw [if_neg e1] at hz
    by_cases e2 : z = "off"
    · rw [if_pos e2] at hz; cases hz
    rw [if_neg e2] at hz
    by_cases e3 : z = "knob"
    · rw [if_pos e3] at hz; cases hz
    rw [if_neg e3] at hz
    by_cases e4 : z = "voice"
    · rw [if_pos e4] at hz; cases hz
    have ne : ∀ (x : Str) (t : Tok), z ≠ x → (Value.str x t).isStr z = false := fun x t h => by
      rw [PySem.W.isStr_of]
      cases e : Value.isStrOf z (.str x t) with
      | false => rfl
      | true =>
        obtain ⟨t', e'⟩ := Value.isStrOf_shape e
        injection e' with e1 _
        exact absurd e1.symm h
    unfold PySem.W.nsIn
    rw [l]
    simp only [List.find?_cons, ne _ _ e1, ne _ _ e2, ne _ _ e3, ne _ _ e4, List.find?_nil]
    rfl
  yes := fun z bs hz => by
    unfold wordB at hz
    by_cases e1 : z = "on"
    · rw [if_pos e1] at hz; cases hz; rw [e1]; exact ⟨v1, n1, p1⟩
    rw [if_neg e1] at hz
    by_cases e2 : z = "off"
    · rw [if_pos e2] at hz; cases hz; rw [e2]; exact ⟨v2, n2, p2⟩
    rw [if_neg e2] at hz
    by_cases e3 : z = "knob"
    · rw [if_pos e3] at hz; cases hz; rw [e3]; exact ⟨v3, n3, p3⟩
    rw [if_neg e3] at hz
    by_cases e4 : z = "voice"
    · rw [if_pos e4] at hz; cases hz; rw [e4]; exact ⟨v4, n4, p4⟩
    rw [if_neg e4] at hz
    cases hz
/-! ### comprehensions whose items are values and whose items' making changes nothing settled -/
/-- behind i items: the list at D holds f 0 .. f (i - 1) -/
def LcP (D : Addr) (H0 H : Hp) (f : Nat → V) (i : Nat) (H' : Hp) : Prop := H' D = some (.lst ((List.range i).map f)) ∧ Go (fun _ => False) H0 H H0 H'
theorem LcP.start {D : Addr} {H0 H H1 : Hp} {f : Nat → V} (g : Go (fun _ => False) H0 H H0 H1) (h : H1 D = none) : LcP D H0 H f 0 (upd H1 D (.lst [])) := ⟨upd_same, g.lay _ h⟩
theorem LcP.step {D : Addr} {H0 H H1 H' H2 : Hp} {f : Nat → V} {i : Nat} {y : V} (g1 : Go (fun _ => False) H0 H H0 H1) (hD : H1 D = none) (p : LcP D H0 H f i H') (hi : i ≤ 100000) (g : Go (fun _ => False) H0 H' H0 H2) (e : y = f i) :
    ∃ acc, H2 D = some (.lst acc) ∧ acc.length < sizeLine ∧ LcP D H0 H f (i + 1) (upd H2 D (.lst (acc ++ [y]))) := by
  refine ⟨_, g.keep _ _ p.1 (fun z => z), mem_lt (by rw [List.length_map, List.length_range]; omega), ?_, (p.2.then g).turn _ (g1.fresh hD) (g1.fresh0 hD)⟩
  rw [upd_same, List.range_succ, List.map_append, e]
  rfl
theorem map_range {α β : Type} (l : List α) (g : α → β) (f : Nat → β) (h : ∀ i a, l[i]? = some a → f i = g a) : (List.range l.length).map f = l.map g := by
  refine List.ext_getElem? fun i => ?_
  rw [List.getElem?_map, List.getElem?_map]
  by_cases hi : i < l.length
  · rw [List.getElem?_range hi, List.getElem?_eq_getElem hi]
    show some (f i) = some (g l[i])
    rw [h i _ (List.getElem?_eq_getElem hi)]
  · rw [List.getElem?_eq_none (l := l) (by omega), List.getElem?_eq_none (l := List.range l.length) (by rw [List.length_range]; omega)]
    rfl
/-- the signs of a text -/
theorem lc_str {x : Str} {g : TG} {tt : TT} {te : TE} {vs : List Nat} {σ : L2.St} {H1 : Hp} {D : Addr} {Qd : Hp → Prop} (Pv : Nat → Hp → Prop) (h0 : Pv 0 (upd H1 D (.lst [])))
    (hs : ∀ i c H, x.cps.toList[i]? = some c → Pv i H → g (.str ⟨#[c]⟩) (wipe σ vs) H fun σ2 H2 => wipe σ2 vs = wipe σ vs ∧ tt σ2 H2 fun b H3 =>
      if b = true then te σ2 H3 fun y H4 => ∃ acc, H4 D = some (.lst acc) ∧ acc.length < sizeLine ∧ Pv (i + 1) (upd H4 D (.lst (acc ++ [y]))) else Pv (i + 1) H3) (hd : ∀ H, Pv x.cps.toList.length H → Qd H) :
    ∃ W : Nat → Nat → Hp → Prop, (∃ m, W 0 m (upd H1 D (.lst []))) ∧ ∀ i m H, W i m H →
      ((Its x).stop i H ∧ Qd H) ∨ ((Its x).go i H ∧ ∃ Nx : Hp → Prop, (∀ H', Nx H' → ∃ m', m' < m ∧ W (i + 1) m' H') ∧ ∀ y H', (Its x).yld i H y H' → g y (wipe σ vs) H' fun σ2 H2 => wipe σ2 vs = wipe σ vs ∧ tt σ2 H2 fun b H3 =>
        if b = true then te σ2 H3 fun y H4 => ∃ acc, H4 D = some (.lst acc) ∧ acc.length < sizeLine ∧ Nx (upd H4 D (.lst (acc ++ [y]))) else Nx H3) := by
  refine ⟨fun i m H => m = x.cps.toList.length - i ∧ i ≤ x.cps.toList.length ∧ Pv i H, ⟨x.cps.toList.length, by simp, Nat.zero_le _, h0⟩, ?_⟩
  rintro i m H ⟨rfl, hi, p⟩
  have el : x.cps.toList.length = x.cps.size := Array.length_toList
  by_cases hlt : i < x.cps.toList.length
  · refine .inr ⟨(by show i < x.cps.size; omega), Pv (i + 1), fun H' p' => ⟨x.cps.toList.length - (i + 1), by omega, rfl, hlt, p'⟩, fun y H' hy => ?_⟩
    obtain ⟨rfl, c, hc, rfl⟩ := hy
    exact hs i c _ (by rw [Array.getElem?_toList]; exact hc) p
  · have e : i = x.cps.toList.length := by omega
    subst e
    exact .inl ⟨(by show x.cps.size ≤ _; omega), hd H p⟩
/-- zip of two tuples of like length -/
theorem lc_zipT {K : PySem.W.Frag} {a b : Addr} {xs ys : List V} {g : TG} {tt : TT} {te : TE} {vs : List Nat} {σ : L2.St} {H1 : Hp} {D : Addr} {Qd : Hp → Prop} (hl : xs.length = ys.length) (Pv : Nat → Hp → Prop) (h0 : Pv 0 (upd H1 D (.lst []))) (hq : ∀ i H, Pv i H → SqT K H a xs ∧ SqT K H b ys)
    (hs : ∀ (i : Nat) (x y : V) (T : Addr) (H : Hp), xs[i]? = some x → ys[i]? = some y → Pv i H → H T = none → g (.ref T) (wipe σ vs) (upd H T (.tup [x, y])) fun σ2 H2 => wipe σ2 vs = wipe σ vs ∧ tt σ2 H2 fun b H3 =>
      if b = true then te σ2 H3 fun y H4 => ∃ acc, H4 D = some (.lst acc) ∧ acc.length < sizeLine ∧ Pv (i + 1) (upd H4 D (.lst (acc ++ [y]))) else Pv (i + 1) H3) (hd : ∀ H, Pv xs.length H → Qd H) :
    ∃ W : Nat → Nat → Hp → Prop, (∃ m, W 0 m (upd H1 D (.lst []))) ∧ ∀ i m H, W i m H →
      ((ItzT K a b).stop i H ∧ Qd H) ∨ ((ItzT K a b).go i H ∧ ∃ Nx : Hp → Prop, (∀ H', Nx H' → ∃ m', m' < m ∧ W (i + 1) m' H') ∧ ∀ y H', (ItzT K a b).yld i H y H' → g y (wipe σ vs) H' fun σ2 H2 => wipe σ2 vs = wipe σ vs ∧ tt σ2 H2 fun b H3 =>
        if b = true then te σ2 H3 fun y H4 => ∃ acc, H4 D = some (.lst acc) ∧ acc.length < sizeLine ∧ Nx (upd H4 D (.lst (acc ++ [y]))) else Nx H3) := by
  refine ⟨fun i m H => m = xs.length - i ∧ i ≤ xs.length ∧ Pv i H, ⟨xs.length, by simp, Nat.zero_le _, h0⟩, ?_⟩
  rintro i m H ⟨rfl, hi, p⟩
  obtain ⟨qx, qy⟩ := hq i H p
  by_cases hlt : i < xs.length
  · have hx : xs[i]? = some xs[i] := List.getElem?_eq_getElem hlt
    have hlt2 : i < ys.length := by omega
    have hy : ys[i]? = some ys[i] := List.getElem?_eq_getElem hlt2
    refine .inr ⟨⟨xs, ys, _, _, qx, qy, hx, hy⟩, Pv (i + 1), fun H' p' => ⟨xs.length - (i + 1), by omega, rfl, hlt, p'⟩, fun v H' yl => ?_⟩
    obtain ⟨T, x, y, rfl, hT, rfl, fx, fy⟩ := yl
    exact hs i x y T H (fx xs qx) (fy ys qy) p hT
  · have e : i = xs.length := by omega
    subst e
    exact .inl ⟨⟨xs, ys, qx, qy, .inl (Nat.le_refl _)⟩, hd H p⟩
theorem upPut {G : Hp} {p b : Addr} {o u : HO} (n : G p = none) (h : G b = some u) : upd G p o b = some u := by
  rw [upd_ne (ne_of_none h n)]
  exact h
/-- a step from a larger settled heap is one from the smaller -/
theorem Go.down {E0 F0 E F G : Hp} (a : Go (fun _ => False) E0 E E0 F) (x : Ex E0 F0) (b : Go (fun _ => False) F0 F F0 G) : Go (fun _ => False) E0 E E0 G where
  up := Ex.refl _
  inn := x.trans b.inn
  new := fun _ _ h => h
  keep := fun c o h n => b.keep c o (a.keep c o h n) n
  there := fun c h => b.there c (a.there c h)
end Rt

set_option autoImplicit false
namespace Rt
open PySem PySem.Spec PyProof.Rows L2 LamX
variable [TabsT]
section
variable {fr : Fr} {F F' : Hp} {Γ : G} {T A : List (V × B)} {σ : L2.St} {H H' : Hp} {S S' : Addr → Own}
/-! ### tuples and lists -/
def tks : List B → (List Z → Prop) → Prop
  | [], k => k []
  | b :: bs, k => b.tk fun z => tks bs fun zs => k (z :: zs)
theorem P_tk {K : PySem.W.Frag} {S : Addr → Own} {H : Hp} {me : Own} {v : V} {b : B} {k : Z → Prop} (h : b.P K S H me v) (q : b.tk k) : ∃ z, k z ∧ ∀ (S' : Addr → Own) (H' : Hp), (∀ x o, H x = some o → isTbl o = false → H' x = some o) → (∀ x, H x ≠ none → S x = .set → S' x = .set) → (∀ x, H x ≠ none → S x = me → S' x = .set) → Zp K (vw S' H' (eqO .set)) v z := by
  cases b with
  | set z => exact ⟨z, q, fun S' H' hk hs hm => h.settle rfl hk hs hm⟩
  | own z => exact ⟨z, q, fun S' H' hk hs hm => h.settle rfl hk hs hm⟩
  | frs z => exact ⟨z, q, fun S' H' hk hs hm => h.settle rfl hk hs hm⟩
  | two r => exact ⟨r.z, q, fun S' H' hk hs hm => B.P.settle (b := .two r) h rfl hk hs hm⟩
  | bor st is z => exact ⟨z, q.2, fun S' H' hk hs hm => Zp.imm (fun b xs e => vw_at (hk b _ (vw_of e).1 rfl) rfl (.inl rfl)) q.1 (B.P.all h rfl)⟩
  | _ => exact q.elim
theorem tks_ok {n : Nat} (R : RelS fr F Γ (T ++ A) σ H S) (hn : n = T.length) : ∀ {A1 A2 : List (V × B)} {k : List Z → Prop}, A = A1 ++ A2 → tks (A2.map (·.2)) k → ∃ zs, k zs ∧ ∀ (S' : Addr → Own) (H' : Hp), (∀ x o, H x = some o → isTbl o = false → H' x = some o) → (∀ x, H x ≠ none → S' x = retm n .set S x) → Zps fr.K (vw S' H' (eqO .set)) (A2.map (·.1)) zs
  | A1, [], k, e, q => ⟨[], q, fun _ _ _ _ => .nil⟩
  | A1, (v, b) :: A2, k, e, q => by
    have q : b.tk fun z => tks (A2.map (·.2)) fun zs => k (z :: zs) := q
    have hv := R.tm (n + A1.length) v b (by rw [hn, List.getElem?_append_right (by omega), show T.length + A1.length - T.length = A1.length by omega, e, List.getElem?_append_right (by omega), Nat.sub_self]; rfl)
    obtain ⟨z, h1, h2⟩ := P_tk hv q
    obtain ⟨zs, h3, h4⟩ := tks_ok R hn (A1 := A1 ++ [(v, b)]) (A2 := A2) (by rw [e, List.append_assoc]; rfl) h1
    exact ⟨z :: zs, h3, fun S' H' hk hS => .cons (h2 S' H' hk (fun x h c => (hS x h).trans (retm_set c)) (fun x h c => (hS x h).trans (retm_hi (by omega) c))) (h4 S' H' hk hS)⟩
def zTup (z : ZA) : ZE := fun Γ k => z Γ fun bs => tks bs fun zs => k (.set (.tup zs))
def zLst (z : ZA) : ZE := fun Γ k => z Γ fun bs => tks bs fun zs => k (.own (.lst zs))
theorem sz_n {n : Nat} (h : n ≤ 1000) : n ≤ sizeLine := mem_sz (Nat.le_trans h (by decide))
theorem z_tup {n : Nat} {t : TA} {z : ZA} (h : SA fr n t z) (hn : n ≤ 1000 := by decide) : SE fr (tTup t) (zTup z) := by
  intro F Γ T σ H Q k R kq q
  refine h F Γ T σ H _ _ R (fun bs hb A H1 e1 e2 R1 => ?_) q
  obtain ⟨S, R1⟩ := R1
  subst e1
  obtain ⟨zs, hk, hz⟩ := tks_ok R1 rfl (A1 := []) (A2 := A) rfl hb
  refine ⟨by rw [List.length_map, e2]; exact sz_n hn, fun p hp => ?_⟩
  have hS : ∀ x, H1 x ≠ none → newO p .set (retm T.length .set S) x = retm T.length .set S x := fun x h => newO_ne fun z => h (z ▸ hp)
  have nz := hz (newO p .set (retm T.length .set S)) (upd H1 p (.tup (A.map (·.1)))) (fun x o e _ => (upd_ne (ne_of_none e hp)).trans e) hS
  exact kq _ hk _ _ ⟨_, R1.alloc hp (.inl rfl) (.inl rfl) (b := .set (.tup zs)) (.tup (vw_at upd_same rfl (.inl rfl)) nz)⟩
theorem z_lst {n : Nat} {t : TA} {z : ZA} (h : SA fr n t z) (hn : n ≤ 1000 := by decide) : SE fr (tLst t) (zLst z) := by
  intro F Γ T σ H Q k R kq q
  refine h F Γ T σ H _ _ R (fun bs hb A H1 e1 e2 R1 => ?_) q
  obtain ⟨S, R1⟩ := R1
  subst e1
  obtain ⟨zs, hk, hz⟩ := tks_ok R1 rfl (A1 := []) (A2 := A) rfl hb
  refine ⟨by rw [List.length_map, e2]; exact sz_n hn, fun p hp => ?_⟩
  have hS : ∀ x, H1 x ≠ none → newO p (.tmp T.length) (retm T.length .set S) x = retm T.length .set S x := fun x h => newO_ne fun z => h (z ▸ hp)
  have nz := hz (newO p (.tmp T.length) (retm T.length .set S)) (upd H1 p (.lst (A.map (·.1)))) (fun x o e _ => (upd_ne (ne_of_none e hp)).trans e) hS
  exact kq _ hk _ _ ⟨_, R1.alloc hp (.inr rfl) (.inl rfl) (b := .own (.lst zs)) ⟨p, _, rfl, newO_at, upd_same, nz⟩⟩
/-- a tuple of new things -/
def B.tkf : B → (List Nat → Z → Prop) → Prop
  | .set z, k => z.imm = true ∧ k [] z
  | .own z, k => Z.imms z.items = true ∧ k [] z
  | .frs z, k => k [] z
  | .bor true _ z, k => z.imm = true ∧ k [] z
  | .bor false is z, k => k is z
  | _, _ => False
def tkfs : List B → (List Nat → List Z → Prop) → Prop
  | [], k => k [] []
  | b :: bs, k => b.tkf fun is z => tkfs bs fun js zs => k (is ++ js) (z :: zs)
theorem P_tkf {K : PySem.W.Frag} {S : Addr → Own} {H : Hp} {me : Own} {v : V} {b : B} {k : List Nat → Z → Prop} (h : b.P K S H me v) (q : b.tkf k) : ∃ is z, k is z ∧ ∀ (S' : Addr → Own) (H' : Hp) (p : Own → Bool), (∀ x o, H x = some o → isTbl o = false → H' x = some o) → (∀ x, H x ≠ none → S x = me → p (S' x) = true) → (∀ i ∈ is, ∀ x, H x ≠ none → S x = .slot i → p (S' x) = true) → Zp K (vw S' H' p) v z := by
  have tt : ∀ {H' : Hp} {S' : Addr → Own} {p q : Own → Bool}, (∀ x o, H x = some o → isTbl o = false → H' x = some o) → LeT (vw S H q) (vw S' H' p) := fun hk b xs e => vw_at (hk b _ (vw_of e).1 rfl) rfl (.inl rfl)
  have mm : ∀ {H' : Hp} {S' : Addr → Own} {p : Own → Bool}, (∀ x o, H x = some o → isTbl o = false → H' x = some o) → (∀ x, H x ≠ none → S x = me → p (S' x) = true) → Le (vw S H (eqO me)) (vw S' H' p) := fun hk hm => vw_le fun x o e n c => ⟨hk x o e n, c.imp id fun c => hm x (by rw [e]; simp) (of_decide_eq_true c)⟩
  cases b with
  | set z => exact ⟨[], z, q.2, fun S' H' p hk hm _ => Zp.imm (tt hk) q.1 h⟩
  | own z => exact ⟨[], z, q.2, fun S' H' p hk hm _ => (OwnP.mov (p := eqO me) (decide_eq_true rfl) q.1 h).up (mm hk hm)⟩
  | frs z => exact ⟨[], z, q, fun S' H' p hk hm _ => Zp.up (mm hk hm) h⟩
  | bor st is z =>
    cases st with
    | true => exact ⟨[], z, q.2, fun S' H' p hk hm _ => Zp.imm (tt hk) q.1 (B.P.all h rfl)⟩
    | false =>
      refine ⟨is, z, q, fun S' H' p hk hm hi => Zp.up (vw_le fun x o e n c => ⟨hk x o e n, c.imp id fun c => ?_⟩) h⟩
      rcases borO_iff.mp c with c | c | ⟨i, h1, c⟩
      · cases c.1
      · exact hm x (by rw [e]; simp) c
      · exact hi i h1 x (by rw [e]; simp) c
  | _ => exact q.elim
theorem tkfs_ok (R : RelS fr F Γ (T ++ A) σ H S) : ∀ {A1 A2 : List (V × B)} {k : List Nat → List Z → Prop}, A = A1 ++ A2 → tkfs (A2.map (·.2)) k → ∃ is zs, k is zs ∧ ∀ (S' : Addr → Own) (H' : Hp) (p : Own → Bool), (∀ x o, H x = some o → isTbl o = false → H' x = some o) → (∀ x j, H x ≠ none → T.length ≤ j → S x = .tmp j → p (S' x) = true) → (∀ i ∈ is, ∀ x, H x ≠ none → S x = .slot i → p (S' x) = true) → Zps fr.K (vw S' H' p) (A2.map (·.1)) zs
  | A1, [], k, e, q => ⟨[], [], q, fun _ _ _ _ _ _ => .nil⟩
  | A1, (v, b) :: A2, k, e, q => by
    have q : b.tkf fun is z => tkfs (A2.map (·.2)) fun js zs => k (is ++ js) (z :: zs) := q
    have hv := R.tm (T.length + A1.length) v b (by rw [List.getElem?_append_right (by omega), show T.length + A1.length - T.length = A1.length by omega, e, List.getElem?_append_right (by omega), Nat.sub_self]; rfl)
    obtain ⟨is, z, h1, h2⟩ := P_tkf hv q
    obtain ⟨js, zs, h3, h4⟩ := tkfs_ok R (A1 := A1 ++ [(v, b)]) (A2 := A2) (by rw [e, List.append_assoc]; rfl) h1
    exact ⟨is ++ js, z :: zs, h3, fun S' H' p hk hm hi => .cons (h2 S' H' p hk (fun x h c => hm x _ h (by omega) c) (fun i h => hi i (List.mem_append_left _ h))) (h4 S' H' p hk hm (fun i h => hi i (List.mem_append_right _ h)))⟩
def zTupF (z : ZA) : ZE := fun Γ k => z Γ fun bs => tkfs bs fun is zs => k (.bor false is (.tup zs))
theorem z_tupF {n : Nat} {t : TA} {z : ZA} (h : SA fr n t z) (hn : n ≤ 1000 := by decide) : SE fr (tTup t) (zTupF z) := by
  intro F Γ T σ H Q k R kq q
  refine h F Γ T σ H _ _ R (fun bs hb A H1 e1 e2 R1 => ?_) q
  obtain ⟨S, R1⟩ := R1
  subst e1
  obtain ⟨is, zs, hk, hz⟩ := tkfs_ok R1 (A1 := []) (A2 := A) rfl hb
  refine ⟨by rw [List.length_map, e2]; exact sz_n hn, fun p hp => ?_⟩
  have hS : ∀ x, H1 x ≠ none → newO p (.tmp T.length) (retm T.length (.tmp T.length) S) x = retm T.length (.tmp T.length) S x := fun x h => newO_ne fun z => h (z ▸ hp)
  have nz := hz (newO p (.tmp T.length) (retm T.length (.tmp T.length) S)) (upd H1 p (.tup (A.map (·.1)))) (borO false is (.tmp T.length)) (fun x o e _ => (upd_ne (ne_of_none e hp)).trans e)
    (fun x j h hj c => borO_iff.mpr (.inr (.inl ((hS x h).trans (retm_hi hj c))))) (fun i hi x h c => borO_iff.mpr (.inr (.inr ⟨i, hi, (hS x h).trans (retm_slot c)⟩)))
  exact kq _ hk _ _ ⟨_, R1.alloc hp (.inr rfl) (.inr rfl) (b := .bor false is (.tup zs)) (.tup (vw_at upd_same rfl (.inl rfl)) nz)⟩
/-! ### parts -/
def B.sub : B → Z → B := fun b z => match b with
  | .set _ => .set z
  | .own _ => .set z
  | .frs _ => match z with
    | .int i => .set (.int i)
    | .str i => .set (.str i)
    | .bl i => .set (.bl i)
    | .non => .set .non
    | z => .frs z
  | .bor st is _ => match z with
    | .int i => .set (.int i)
    | .str i => .set (.str i)
    | .bl i => .set (.bl i)
    | .non => .set .non
    | z => .bor st is z
  | .two _ => match z with
    | .int i => .set (.int i)
    | .str i => .set (.str i)
    | .bl i => .set (.bl i)
    | .non => .set .non
    | z => .bor true [] z
  | _ => .dead
theorem zps_at {K : PySem.W.Frag} {H : Hp} : ∀ {vs : List V} {l : List Z} {j : Nat} {z : Z}, Zps K H vs l → l[j]? = some z → ∃ v, vs[j]? = some v ∧ Zp K H v z
  | _, _, _, _, .nil, e => by simp at e
  | _, _, 0, _, .cons a _, e => by cases e; exact ⟨_, rfl, a⟩
  | _, _, j + 1, _, .cons _ b, e => by
    obtain ⟨v, h1, h2⟩ := zps_at (j := j) b (by simpa using e)
    exact ⟨v, by simpa using h1, h2⟩
theorem zps_atv {K : PySem.W.Frag} {H : Hp} {vs : List V} {l : List Z} {j : Nat} {v : V} (h : Zps K H vs l) (e : vs[j]? = some v) : ∃ z, l[j]? = some z ∧ Zp K H v z := by
  have hj := (List.getElem?_eq_some_iff.mp e).1
  rw [h.len] at hj
  obtain ⟨w, h1, h2⟩ := zps_at h (List.getElem?_eq_getElem hj)
  rw [e] at h1
  cases h1
  exact ⟨_, List.getElem?_eq_getElem hj, h2⟩
theorem zps_atI {K : PySem.W.Frag} {H : Hp} {vs : List V} {l : List Z} {i : Int} {z : Z} (h : Zps K H vs l) (e : atI l i = some z) : ∃ v, atI vs i = some v ∧ Zp K H v z := by
  unfold atI at e ⊢
  rw [h.len]
  cases q : ixN l.length i with
  | none => rw [q] at e; cases e
  | some j =>
    rw [q] at e
    exact zps_at h e
/-- a part of a binding's thing -/
theorem P_sub {K : PySem.W.Frag} {S : Addr → Own} {H : Hp} {me : Own} {v : V} {b : B} {z : Z} (h : b.P K S H me v) (hz : b.z = some z) {l : List Z} (hl : z = .lst l ∨ z = .tup l) {i : Int} {y : Z} (e : atI l i = some y) :
    ∃ p vs w, v = .ref p ∧ (H p = some (.lst vs) ∧ z = .lst l ∨ SqT K H p vs ∧ z = .tup l) ∧ atI vs i = some w ∧ (b.sub y).P K S H me w := by
  have gen : ∀ {q : Own → Bool}, Zp K (vw S H q) v z → ∃ p vs w, v = .ref p ∧ (H p = some (.lst vs) ∧ z = .lst l ∨ SqT K H p vs ∧ z = .tup l) ∧ atI vs i = some w ∧ Zp K (vw S H q) w y := fun {q} h => by
    rcases hl with rfl | rfl
    · cases h with
      | lst a c =>
        obtain ⟨w, h1, h2⟩ := zps_atI c e
        exact ⟨_, _, w, rfl, .inl ⟨vw_ex _ _ a, rfl⟩, h1, h2⟩
    · cases h with
      | tup a c =>
        obtain ⟨w, h1, h2⟩ := zps_atI c e
        exact ⟨_, _, w, rfl, .inr ⟨SqT.of (vw_ex _ _ a), rfl⟩, h1, h2⟩
      | tupK a c =>
        obtain ⟨w, h1, h2⟩ := zps_atI c e
        exact ⟨_, _, w, rfl, .inr ⟨a.elim (fun z => by rcases z with z | ⟨_, z⟩ <;> cases z) .inr, rfl⟩, h1, h2⟩
  have sc : ∀ {w : V} {q : Own → Bool} {c : B}, Zp K (vw S H q) w y → c = .set y → y.imm = true → c.P K S H me w := fun h e i => by rw [e]; exact h.imm vw_tup i
  cases b with
  | set x => cases hz; exact gen h
  | frs x =>
    cases hz
    obtain ⟨p, vs, w, h1, h2, h3, h4⟩ := gen h
    refine ⟨p, vs, w, h1, h2, h3, ?_⟩
    cases y with
    | int _ => exact sc h4 rfl rfl
    | str _ => exact sc h4 rfl rfl
    | bl _ => exact sc h4 rfl rfl
    | non => exact sc h4 rfl rfl
    | _ => exact h4
  | bor st is x =>
    cases hz
    obtain ⟨p, vs, w, h1, h2, h3, h4⟩ := gen h
    refine ⟨p, vs, w, h1, h2, h3, ?_⟩
    cases y with
    | int _ => exact sc h4 rfl rfl
    | str _ => exact sc h4 rfl rfl
    | bl _ => exact sc h4 rfl rfl
    | non => exact sc h4 rfl rfl
    | _ => exact h4
  | two r =>
    cases hz
    have hB : Zp K (vw S H (borO true [] me)) v r.z := TwoP.all (by unfold borO; simp) (by unfold borO; simp) h
    obtain ⟨p, vs, w, h1, h2, h3, h4⟩ := gen hB
    refine ⟨p, vs, w, h1, h2, h3, ?_⟩
    cases y with
    | int _ => exact sc h4 rfl rfl
    | str _ => exact sc h4 rfl rfl
    | bl _ => exact sc h4 rfl rfl
    | non => exact sc h4 rfl rfl
    | _ => exact h4
  | own x =>
    cases hz
    rcases hl with rfl | rfl
    · obtain ⟨a, vs, rfl, s, h1, h2⟩ := h
      obtain ⟨w, h3, h4⟩ := zps_atI h2 e
      exact ⟨a, vs, w, rfl, .inl ⟨h1, rfl⟩, h3, h4⟩
    · exact h.elim
  | _ => cases hz
def zIxL : B → B → (B → Prop) → Prop := fun b1 b2 k => match b1.z, b2 with
  | some (.lst l), .set (.int i) => ∃ z, atI l i = some z ∧ k (b1.sub z)
  | _, _ => False
def zIxT : B → B → (B → Prop) → Prop := fun b1 b2 k => match b1.z, b2 with
  | some (.tup l), .set (.int i) => ∃ z, atI l i = some z ∧ k (b1.sub z)
  | _, _ => False
theorem rel_fst {v1 v2 : V} {b1 b2 : B} (R : RelS fr F Γ (T ++ [(v1, b1), (v2, b2)]) σ H S) : b1.P fr.K S H (.tmp T.length) v1 := R.tm _ v1 b1 (by rw [List.getElem?_append_right (by omega), Nat.sub_self]; rfl)
theorem s_ixL : SO2 fr (rIxL fr.K) zIxL := by
  intro F Γ T σ H Q k v1 v2 b1 b2 R kq h
  unfold zIxL at h
  split at h
  · rename_i l i e
    obtain ⟨z, hz, h⟩ := h
    have e2 := zp_int (R.zp (j := 1) rfl rfl)
    obtain ⟨S, R⟩ := R
    obtain ⟨p, vs, w, rfl, h1, h2, h3⟩ := P_sub (rel_fst R) e (.inl rfl) hz
    rcases h1 with ⟨h1, _⟩ | ⟨_, h1⟩
    · exact ⟨p, vs, i, w, rfl, e2, SqL.of h1, h2, kq _ h _ H ⟨S, R.same h3⟩⟩
    · cases h1
  · exact h.elim
theorem s_ixT : SO2 fr (rIxT fr.K) zIxT := by
  intro F Γ T σ H Q k v1 v2 b1 b2 R kq h
  unfold zIxT at h
  split at h
  · rename_i l i e
    obtain ⟨z, hz, h⟩ := h
    have e2 := zp_int (R.zp (j := 1) rfl rfl)
    obtain ⟨S, R⟩ := R
    obtain ⟨p, vs, w, rfl, h1, h2, h3⟩ := P_sub (rel_fst R) e (.inr rfl) hz
    rcases h1 with ⟨_, h1⟩ | ⟨h1, _⟩
    · cases h1
    · exact ⟨p, vs, i, w, rfl, e2, h1, h2, kq _ h _ H ⟨S, R.same h3⟩⟩
  · exact h.elim
end
end Rt

set_option autoImplicit false
namespace Rt
open PySem PySem.Spec PyProof.Rows L2 LamX
variable [TabsT]
section
variable {fr : Fr} {F F' : Hp} {Γ : G} {T A : List (V × B)} {σ : L2.St} {H H' : Hp} {S S' : Addr → Own}
/-! ### what a binding's thing is at the whole heap -/
theorem zp_lst {K : PySem.W.Frag} {H : Hp} {v : V} {l : List Z} (h : Zp K H v (.lst l)) : ∃ a vs, v = .ref a ∧ H a = some (.lst vs) ∧ Zps K H vs l := by cases h with | lst a b => exact ⟨_, _, rfl, a, b⟩
theorem zp_tup {K : PySem.W.Frag} {H : Hp} {v : V} {l : List Z} (h : Zp K H v (.tup l)) : ∃ a vs, v = .ref a ∧ SqT K H a vs ∧ Zps K H vs l := by
  cases h with
  | tup a b => exact ⟨_, _, rfl, SqT.of a, b⟩
  | tupK a b => exact ⟨_, _, rfl, a.elim (fun z => by rcases z with z | ⟨_, z⟩ <;> cases z) .inr, b⟩
/-- the parts of a thing, for a new thing -/
theorem P_parts {K : PySem.W.Frag} {S : Addr → Own} {H : Hp} {me : Own} {v : V} {b : B} (h : b.P K S H me v) {z : Z} (hz : b.z = some z) {l : List Z} (hl : z = .lst l ∨ z = .tup l) (hb : (∃ z, b = .set z) ∨ (∃ z, b = .own z) ∨ (∃ z, b = .frs z) ∨ Z.imms l = true) :
    ∃ p vs, v = .ref p ∧ (z = .lst l → H p = some (.lst vs)) ∧ (z = .tup l → SqT K H p vs) ∧ ∀ (S' : Addr → Own) (H' : Hp), (∀ x o, H x = some o → isTbl o = false → H' x = some o) → (∀ x, H x ≠ none → S x = .set → S' x = .set) → (∀ x, H x ≠ none → S x = me → S' x = .set) → Zps K (vw S' H' (eqO .set)) vs l := by
  have gen : ∀ {q : Own → Bool}, Zp K (vw S H q) v z → ∃ p vs, v = .ref p ∧ (z = .lst l → H p = some (.lst vs)) ∧ (z = .tup l → SqT K H p vs) ∧ Zps K (vw S H q) vs l := fun {q} h => by
    rcases hl with rfl | rfl
    · obtain ⟨a, vs, rfl, h1, h2⟩ := zp_lst h
      exact ⟨a, vs, rfl, fun _ => vw_ex _ _ h1, (fun z => nomatch z), h2⟩
    · cases h with
      | tup a c => exact ⟨_, _, rfl, (fun z => nomatch z), fun _ => SqT.of (vw_ex _ _ a), c⟩
      | tupK a c => exact ⟨_, _, rfl, (fun z => nomatch z), fun _ => a.elim (fun z => by rcases z with z | ⟨_, z⟩ <;> cases z) .inr, c⟩
  have up : ∀ {S' : Addr → Own} {H' : Hp} {q : Own → Bool}, (∀ x o, H x = some o → isTbl o = false → H' x = some o) → (∀ x, H x ≠ none → q (S x) = true → S' x = .set) → Le (vw S H q) (vw S' H' (eqO .set)) := fun hk hq => vw_le fun x o e n c => ⟨hk x o e n, c.imp id fun c => decide_eq_true (hq x (by rw [e]; simp) c)⟩
  have im : ∀ {q : Own → Bool}, Zp K (vw S H q) v z → Z.imms l = true → ∃ p vs, v = .ref p ∧ (z = .lst l → H p = some (.lst vs)) ∧ (z = .tup l → SqT K H p vs) ∧ ∀ (S' : Addr → Own) (H' : Hp), (∀ x o, H x = some o → isTbl o = false → H' x = some o) → (∀ x, H x ≠ none → S x = .set → S' x = .set) → (∀ x, H x ≠ none → S x = me → S' x = .set) → Zps K (vw S' H' (eqO .set)) vs l := fun h i => by
    obtain ⟨p, vs, h1, h2, h3, h4⟩ := gen h
    exact ⟨p, vs, h1, h2, h3, fun S' H' hk _ _ => h4.imm (fun b xs e => vw_at (hk b _ (vw_of e).1 rfl) rfl (.inl rfl)) i⟩
  cases b with
  | set x =>
    cases hz
    obtain ⟨p, vs, h1, h2, h3, h4⟩ := gen h
    exact ⟨p, vs, h1, h2, h3, fun S' H' hk hs hm => h4.up (up hk fun x h c => hs x h (of_decide_eq_true c))⟩
  | frs x =>
    cases hz
    obtain ⟨p, vs, h1, h2, h3, h4⟩ := gen h
    exact ⟨p, vs, h1, h2, h3, fun S' H' hk hs hm => h4.up (up hk fun x h c => hm x h (of_decide_eq_true c))⟩
  | own x =>
    cases hz
    rcases hl with rfl | rfl
    · obtain ⟨a, vs, rfl, s, h1, h2⟩ := h
      exact ⟨a, vs, rfl, fun _ => h1, (fun z => nomatch z), fun S' H' hk hs hm => h2.up (up hk fun x h c => hs x h (of_decide_eq_true c))⟩
    · exact h.elim
  | bor st is x =>
    cases hz
    rcases hb with ⟨_, z⟩ | ⟨_, z⟩ | ⟨_, z⟩ | i
    · cases z
    · cases z
    · cases z
    · exact im h i
  | two r =>
    cases hz
    rcases hb with ⟨_, z⟩ | ⟨_, z⟩ | ⟨_, z⟩ | i
    · cases z
    · cases z
    · cases z
    · exact im (TwoP.all (p := allO) rfl rfl h) i
  | _ => cases hz
/-- the parts are taken -/
def B.pt (b : B) (l : List Z) (P : Prop) : Prop := match b with
  | .set _ => P
  | .own _ => P
  | .frs _ => P
  | _ => Z.imms l = true ∧ P
theorem B.pt_ok {b : B} {l : List Z} {P : Prop} (h : b.pt l P) : P ∧ ((∃ z, b = .set z) ∨ (∃ z, b = .own z) ∨ (∃ z, b = .frs z) ∨ Z.imms l = true) := by
  cases b with
  | set z => exact ⟨h, .inl ⟨z, rfl⟩⟩
  | own z => exact ⟨h, .inr (.inl ⟨z, rfl⟩)⟩
  | frs z => exact ⟨h, .inr (.inr (.inl ⟨z, rfl⟩))⟩
  | _ => exact ⟨h.2, .inr (.inr (.inr h.1))⟩
theorem zps_app {K : PySem.W.Frag} {H : Hp} : ∀ {vs ws : List V} {l m : List Z}, Zps K H vs l → Zps K H ws m → Zps K H (vs ++ ws) (l ++ m)
  | _, _, _, _, .nil, h => h
  | _, _, _, _, .cons a b, h => .cons a (zps_app b h)
theorem zps_take {K : PySem.W.Frag} {H : Hp} : ∀ {vs : List V} {l : List Z} (n : Nat), Zps K H vs l → Zps K H (vs.take n) (l.take n)
  | _, _, 0, _ => .nil
  | _, _, _ + 1, .nil => .nil
  | _, _, n + 1, .cons a b => .cons a (zps_take n b)
theorem zps_drop {K : PySem.W.Frag} {H : Hp} : ∀ {vs : List V} {l : List Z} (n : Nat), Zps K H vs l → Zps K H (vs.drop n) (l.drop n)
  | _, _, 0, h => h
  | _, _, _ + 1, .nil => .nil
  | _, _, n + 1, .cons _ b => zps_drop n b
/-- what a slice gives -/
def cutZ (l : List Z) (lo hi : Option Int) : List Z := (l.drop (HT.sIx l.length 0 lo)).take (HT.sIx l.length l.length hi - HT.sIx l.length 0 lo)
theorem zps_cut {K : PySem.W.Frag} {H : Hp} {vs : List V} {l : List Z} (h : Zps K H vs l) (lo hi : Option Int) : Zps K H (cutV vs lo hi) (cutZ l lo hi) := by
  unfold cutV cutZ
  rw [h.len]
  exact zps_take _ (zps_drop _ h)
/-- a new list of settled things; tuple -/
theorem Rel.newL (R : Rel fr F Γ (T ++ A) σ H) {p : Addr} (hp : H p = none) {vs : List V} {l : List Z} (h : ∀ S, RelS fr F Γ (T ++ A) σ H S → ∀ (S' : Addr → Own) (H' : Hp), (∀ x o, H x = some o → isTbl o = false → H' x = some o) → (∀ x, H x ≠ none → S' x = retm T.length .set S x) → Zps fr.K (vw S' H' (eqO .set)) vs l) :
    Rel fr F Γ (T ++ [(.ref p, B.own (.lst l))]) σ (upd H p (.lst vs)) := by
  obtain ⟨S, R⟩ := R
  have nz := h S R (newO p (.tmp T.length) (retm T.length .set S)) (upd H p (.lst vs)) (fun x o e _ => (upd_ne (ne_of_none e hp)).trans e) (fun x h => newO_ne fun z => h (z ▸ hp))
  exact ⟨_, R.alloc hp (.inr rfl) (.inl rfl) (b := .own (.lst l)) ⟨p, _, rfl, newO_at, upd_same, nz⟩⟩
theorem Rel.newT (R : Rel fr F Γ (T ++ A) σ H) {p : Addr} (hp : H p = none) {vs : List V} {l : List Z} (h : ∀ S, RelS fr F Γ (T ++ A) σ H S → ∀ (S' : Addr → Own) (H' : Hp), (∀ x o, H x = some o → isTbl o = false → H' x = some o) → (∀ x, H x ≠ none → S' x = retm T.length .set S x) → Zps fr.K (vw S' H' (eqO .set)) vs l) :
    Rel fr F Γ (T ++ [(.ref p, B.set (.tup l))]) σ (upd H p (.tup vs)) := by
  obtain ⟨S, R⟩ := R
  have nz := h S R (newO p .set (retm T.length .set S)) (upd H p (.tup vs)) (fun x o e _ => (upd_ne (ne_of_none e hp)).trans e) (fun x h => newO_ne fun z => h (z ▸ hp))
  exact ⟨_, R.alloc hp (.inl rfl) (.inl rfl) (b := .set (.tup l)) (.tup (vw_at upd_same rfl (.inl rfl)) nz)⟩
theorem Rel.two {v1 v2 : V} {b1 b2 : B} (R : RelS fr F Γ (T ++ [(v1, b1), (v2, b2)]) σ H S) : b1.P fr.K S H (.tmp T.length) v1 ∧ b2.P fr.K S H (.tmp (T.length + 1)) v2 :=
  ⟨rel_fst R, R.tm _ v2 b2 (by rw [List.getElem?_append_right (by omega), show T.length + 1 - T.length = 1 by omega]; rfl)⟩
/-- l + m -/
def zCat : B → B → (B → Prop) → Prop := fun b1 b2 k => match b1.z, b2.z with
  | some (.lst l), some (.lst m) => l.length + m.length ≤ 1000000 ∧ b1.pt l (b2.pt m (k (.own (.lst (l ++ m)))))
  | _, _ => False
theorem s_cat : SO2 fr rCat zCat := by
  intro F Γ T σ H Q k v1 v2 b1 b2 R kq h
  unfold zCat at h
  split at h
  · rename_i l m e1 e2
    obtain ⟨hz, h⟩ := h
    obtain ⟨h, c1⟩ := B.pt_ok h
    obtain ⟨h, c2⟩ := B.pt_ok h
    have R0 := R
    obtain ⟨S, R⟩ := R
    obtain ⟨p1, p2⟩ := Rel.two R
    obtain ⟨p, vs, rfl, h1, _, _⟩ := P_parts p1 e1 (.inl rfl) c1
    obtain ⟨q, ws, rfl, h2, _, _⟩ := P_parts p2 e2 (.inl rfl) c2
    have l1 := (zp_lst (B.P.all p1 e1))
    have l2 := (zp_lst (B.P.all p2 e2))
    obtain ⟨_, vs', z1, z2, z3⟩ := l1
    cases z1
    obtain rfl : vs' = vs := by have := (vw_ex _ _ z2).symm.trans (h1 rfl); cases this; rfl
    obtain ⟨_, ws', y1, y2, y3⟩ := l2
    cases y1
    obtain rfl : ws' = ws := by have := (vw_ex _ _ y2).symm.trans (h2 rfl); cases this; rfl
    refine ⟨p, q, _, _, rfl, rfl, h1 rfl, h2 rfl, mem_sz (by rw [z3.len, y3.len]; exact hz), fun a ha => ?_⟩
    refine kq _ h _ _ (R0.newL ha fun S R S' H' hk hS => ?_)
    obtain ⟨p1, p2⟩ := Rel.two R
    obtain ⟨p', vs2, z, g1, _, g2⟩ := P_parts p1 e1 (.inl rfl) c1
    cases z
    obtain rfl : vs2 = vs' := by have := (g1 rfl).symm.trans (h1 rfl); cases this; rfl
    obtain ⟨q', ws2, z, g3, _, g4⟩ := P_parts p2 e2 (.inl rfl) c2
    cases z
    obtain rfl : ws2 = ws' := by have := (g3 rfl).symm.trans (h2 rfl); cases this; rfl
    exact zps_app (g2 S' H' hk (fun x h c => (hS x h).trans (retm_set c)) fun x h c => (hS x h).trans (retm_hi (Nat.le_refl _) c)) (g4 S' H' hk (fun x h c => (hS x h).trans (retm_set c)) fun x h c => (hS x h).trans (retm_hi (by omega) c))
  · exact h.elim
/-- t + u -/
def zCatT : B → B → (B → Prop) → Prop := fun b1 b2 k => match b1.z, b2.z with
  | some (.tup l), some (.tup m) => l.length + m.length ≤ 1000000 ∧ Z.imms l = true ∧ Z.imms m = true ∧ k (.set (.tup (l ++ m)))
  | _, _ => False
theorem s_catT : SO2 fr (rCatA fr.K) zCatT := by
  intro F Γ T σ H Q k v1 v2 b1 b2 R kq h
  unfold zCatT at h
  split at h
  · rename_i l m e1 e2
    obtain ⟨hz, i1, i2, h⟩ := h
    obtain ⟨S, Rs⟩ := R
    obtain ⟨p1, p2⟩ := Rel.two Rs
    have q1 := Zp.imm (z := .tup l) (H' := vw S H (eqO .set)) vw_tup i1 (B.P.all p1 e1)
    have q2 := Zp.imm (z := .tup m) (H' := vw S H (eqO .set)) vw_tup i2 (B.P.all p2 e2)
    obtain ⟨a, vs, rfl, s1, z1⟩ := zp_tup q1
    obtain ⟨b, ws, rfl, s2, z2⟩ := zp_tup q2
    have up : ∀ {a xs}, SqT fr.K (vw S H (eqO .set)) a xs → SqT fr.K H a xs := fun h => by
      rcases h with (h | ⟨o, h⟩) | h
      · exact SqT.of (vw_ex _ _ h)
      · exact .inl (.inr ⟨o, vw_ex _ _ h⟩)
      · exact .inr h
    refine ⟨a, b, vs, ws, rfl, rfl, up s1, up s2, mem_sz (by rw [z1.len, z2.len]; exact hz), fun e => ?_, fun _ e => ?_, fun _ _ p hp => ?_⟩
    · subst e
      have hl : l = [] := by cases z1; rfl
      subst hl
      exact kq _ h _ H ⟨S, Rs.same (b := .set (.tup m)) q2⟩
    · subst e
      have hl : m = [] := by cases z2; rfl
      subst hl
      rw [List.append_nil] at h
      exact kq _ h _ H ⟨S, Rs.same (b := .set (.tup l)) q1⟩
    · refine kq _ h _ _ (Rel.newT ⟨S, Rs⟩ hp fun S0 R0 S' H' hk hS => ?_)
      have tt : LeT (vw S H (eqO .set)) (vw S' H' (eqO .set)) := fun b xs e => vw_at (hk b _ (vw_of e).1 rfl) rfl (.inl rfl)
      exact zps_app (z1.imm tt i1) (z2.imm tt i2)
  · exact h.elim
end
end Rt

set_option autoImplicit false
namespace Rt
open PySem PySem.Spec PyProof.Rows L2 RZ LamX
variable [TabsT]
section
variable {fr : Fr} {F F' : Hp} {Γ : G} {T A : List (V × B)} {σ : L2.St} {H H' : Hp} {S S' : Addr → Own}
/-! ### slices, len, list() -/
abbrev ZO := G → (Option Int → Prop) → Prop
def SOp (fr : Fr) (t : TO) (z : ZO) : Prop := ∀ (F : Hp) (Γ : G) (T : List (V × B)) (σ : L2.St) (H : Hp) (Q : Option Int → Hp → Prop) (k : Option Int → Prop), Rel fr F Γ T σ H → (∀ b, k b → ∀ H', Rel fr F Γ T σ H' → Q b H') → z Γ k → t σ H Q
def SSl (fr : Fr) (r : V → Option Int → Option Int → Hp → VK → Prop) (z : B → Option Int → Option Int → (B → Prop) → Prop) : Prop := ∀ (F : Hp) (Γ : G) (T : List (V × B)) (σ : L2.St) (H : Hp) (Q : VK) (k : B → Prop) (v : V) (b : B) (lo hi : Option Int), Rel fr F Γ (T ++ [(v, b)]) σ H → (∀ b, k b → ∀ v H', Rel fr F Γ (T ++ [(v, b)]) σ H' → Q v H') → z b lo hi k → r v lo hi H Q
def zSl (z : B → Option Int → Option Int → (B → Prop) → Prop) (ze : ZE) (zl zh : ZO) : ZE := fun Γ k => ze Γ fun b => zl Γ fun lo => zh Γ fun hi => z b lo hi k
theorem z_slice {r : V → Option Int → Option Int → Hp → VK → Prop} {z : B → Option Int → Option Int → (B → Prop) → Prop} {te : TE} {tl th : TO} {ze : ZE} {zl zh : ZO} (h : SSl fr r z) (h1 : SE fr te ze) (h2 : SOp fr tl zl) (h3 : SOp fr th zh) : SE fr (tSl r te tl th) (zSl z ze zl zh) := by
  intro F Γ T σ H Q k R kq q
  refine h1 F Γ T σ H _ _ R (fun b hb v H1 R1 => ?_) q
  refine h2 F Γ _ σ H1 _ _ R1 (fun lo hlo H2 R2 => ?_) hb
  refine h3 F Γ _ σ H2 _ _ R2 (fun hi hhi H3 R3 => ?_) hlo
  exact h F Γ T σ H3 _ _ v b lo hi R3 kq hhi
def zNone : ZO := fun _ k => k none
theorem zo_none : SOp fr tNoPart zNone := fun F Γ T σ H Q k R kq q => kq _ q _ R
def zSome (z : ZE) : ZO := fun Γ k => z Γ fun b => match b with
  | .set (.int i) => k (some i)
  | _ => False
theorem zo_some {t : TE} {z : ZE} (h : SE fr t z) : SOp fr (tPart t) (zSome z) := fun F Γ T σ H Q k R kq q => h F Γ T σ H _ _ R (fun b hb v H1 R1 => by
  split at hb
  · rename_i i
    exact ⟨i, zp_int (Rel.zp R1 (j := 0) rfl rfl), kq _ hb _ R1.drop⟩
  · exact hb.elim) q
def zSlL : B → Option Int → Option Int → (B → Prop) → Prop := fun b lo hi k => match b.z with
  | some (.lst l) => b.pt l (k (.own (.lst (cutZ l lo hi))))
  | _ => False
theorem fstP {v : V} {b : B} (R : RelS fr F Γ (T ++ [(v, b)]) σ H S) : b.P fr.K S H (.tmp T.length) v := R.tm _ v b (by rw [List.getElem?_append_right (by omega), Nat.sub_self]; rfl)
theorem s_slL : SSl fr (rSlL fr.K) zSlL := by
  intro F Γ T σ H Q k v b lo hi R kq h
  unfold zSlL at h
  split at h
  · rename_i l e
    obtain ⟨h, c⟩ := B.pt_ok h
    have R0 := R
    obtain ⟨S, R⟩ := R
    obtain ⟨p, vs, rfl, h1, _, _⟩ := P_parts (fstP R) e (.inl rfl) c
    refine ⟨p, vs, rfl, SqL.of (h1 rfl), fun a ha => kq _ h _ _ (R0.newL ha fun S R S' H' hk hS => ?_)⟩
    obtain ⟨p', vs2, z, g1, _, g2⟩ := P_parts (fstP R) e (.inl rfl) c
    cases z
    obtain rfl : vs2 = vs := by have := (g1 rfl).symm.trans (h1 rfl); cases this; rfl
    exact zps_cut (g2 S' H' hk (fun x h c => (hS x h).trans (retm_set c)) fun x h c => (hS x h).trans (retm_hi (Nat.le_refl _) c)) lo hi
  · exact h.elim
def zSlT : B → Option Int → Option Int → (B → Prop) → Prop := fun b lo hi k => match b.z with
  | some (.tup l) => Z.imms l = true ∧ k (.set (.tup (cutZ l lo hi)))
  | _ => False
theorem imms_take : ∀ {l : List Z} (n : Nat), Z.imms l = true → Z.imms (l.take n) = true
  | _, 0, _ => rfl
  | [], _ + 1, _ => rfl
  | z :: l, n + 1, h => by
    have h : (z.imm && Z.imms l) = true := h
    rw [Bool.and_eq_true] at h
    show (z.imm && Z.imms (l.take n)) = true
    rw [Bool.and_eq_true]
    exact ⟨h.1, imms_take n h.2⟩
theorem imms_drop : ∀ {l : List Z} (n : Nat), Z.imms l = true → Z.imms (l.drop n) = true
  | _, 0, h => h
  | [], _ + 1, _ => rfl
  | z :: l, n + 1, h => by
    have h : (z.imm && Z.imms l) = true := h
    rw [Bool.and_eq_true] at h
    exact imms_drop n h.2
theorem sqt_upv {K : PySem.W.Frag} {p : Own → Bool} {a : Addr} {xs : List V} (h : SqT K (vw S H p) a xs) : SqT K H a xs := by
  rcases h with (h | ⟨o, h⟩) | h
  · exact SqT.of (vw_ex _ _ h)
  · exact .inl (.inr ⟨o, vw_ex _ _ h⟩)
  · exact .inr h
theorem s_slT : SSl fr (rSlA fr.K) zSlT := by
  intro F Γ T σ H Q k v b lo hi R kq h
  unfold zSlT at h
  split at h
  · rename_i l e
    obtain ⟨i1, h⟩ := h
    obtain ⟨S, Rs⟩ := R
    have q1 := Zp.imm (z := .tup l) (H' := vw S H (eqO .set)) vw_tup i1 (B.P.all (fstP Rs) e)
    obtain ⟨a, vs, rfl, s1, z1⟩ := zp_tup q1
    refine ⟨a, vs, rfl, sqt_upv s1, fun e => ?_, fun _ p hp => ?_⟩
    · have ec : cutZ l lo hi = l := by
        unfold cutZ
        rw [← z1.len, e.1, e.2, z1.len]
        simp
      rw [ec] at h
      exact kq _ h _ H ⟨S, Rs.same (b := .set (.tup l)) q1⟩
    · refine kq _ h _ _ (Rel.newT ⟨S, Rs⟩ hp fun S0 R0 S' H' hk hS => ?_)
      have tt : LeT (vw S H (eqO .set)) (vw S' H' (eqO .set)) := fun b xs e => vw_at (hk b _ (vw_of e).1 rfl) rfl (.inl rfl)
      exact (zps_cut z1 lo hi).imm tt (imms_take _ (imms_drop _ i1))
  · exact h.elim
/-- a call of a builtin -/
def SCB (fr : Fr) (r : List V → Hp → VK → Prop) (z : List B → (B → Prop) → Prop) : Prop := ∀ (F : Hp) (Γ : G) (T A : List (V × B)) (σ : L2.St) (H : Hp) (Q : VK) (k : B → Prop), Rel fr F Γ (T ++ A) σ H → (∀ b, k b → ∀ v H', Rel fr F Γ (T ++ [(v, b)]) σ H' → Q v H') → z (A.map (·.2)) k → r (A.map (·.1)) H Q
def zCB (z : List B → (B → Prop) → Prop) (za : ZA) : ZE := fun Γ k => za Γ fun bs => z bs k
theorem z_callB {n : Nat} {r : List V → Hp → VK → Prop} {z : List B → (B → Prop) → Prop} {t : TA} {za : ZA} (h : SCB fr r z) (ha : SA fr n t za) : SE fr (tCB r t) (zCB z za) := by
  intro F Γ T σ H Q k R kq q
  refine ha F Γ T σ H _ _ R (fun bs hb A H1 e1 e2 R1 => ?_) q
  subst e1
  exact h F Γ T A σ H1 _ _ R1 kq hb
def zLen : List B → (B → Prop) → Prop := fun bs k => match bs with
  | [b] => match b.z with
    | some (.lst l) => k (.set (.int (l.length : Nat)))
    | some (.tup l) => k (.set (.int (l.length : Nat)))
    | some (.str s) => k (.set (.int (s.length : Nat)))
    | some (.dk ks _) => k (.set (.int (ks.length : Nat)))
    | _ => False
  | _ => False
theorem one_arg {A : List (V × B)} {b : B} (e : [b] = A.map (·.2)) : ∃ v, A = [(v, b)] := by
  match A, e with
  | [(v, c)], e => cases e; exact ⟨v, rfl⟩
theorem s_len : SCB fr (fun xs H Q => ∃ p ys, xs = [.ref p] ∧ (SqL fr.K H p ys ∨ SqT fr.K H p ys) ∧ Q (.int ys.length) H) (fun bs k => match bs with
  | [b] => match b.z with
    | some (.lst l) => k (.set (.int (l.length : Nat)))
    | some (.tup l) => k (.set (.int (l.length : Nat)))
    | _ => False
  | _ => False) := by
  intro F Γ T A σ H Q k R kq h
  split at h
  · rename_i b eA
    obtain ⟨v, rfl⟩ := one_arg eA.symm
    split at h
    · rename_i l e
      obtain ⟨a, vs, rfl, h1, h2⟩ := zp_lst (R.zp (j := 0) rfl e)
      exact ⟨a, vs, rfl, .inl (SqL.of h1), kq _ h _ H (by rw [h2.len]; exact R.sc fun _ => .int _)⟩
    · rename_i l e
      obtain ⟨a, vs, rfl, h1, h2⟩ := zp_tup (R.zp (j := 0) rfl e)
      exact ⟨a, vs, rfl, .inr h1, kq _ h _ H (by rw [h2.len]; exact R.sc fun _ => .int _)⟩
    · exact h.elim
  · exact h.elim
/-- list(xs) -/
def zListOf : List B → (B → Prop) → Prop := fun bs k => match bs with
  | [b] => match b.z with
    | some (.lst l) => b.pt l (k (.own (.lst l)))
    | some (.tup l) => b.pt l (k (.own (.lst l)))
    | _ => False
  | _ => False
theorem s_listOf : SCB fr (fun xs H Q => ∃ p ys, xs = [.ref p] ∧ (SqL fr.K H p ys ∨ SqT fr.K H p ys) ∧ ∀ l, H l = none → Q (.ref l) (upd H l (.lst ys))) zListOf := by
  intro F Γ T A σ H Q k R kq h
  unfold zListOf at h
  split at h
  · rename_i b eA
    obtain ⟨v, rfl⟩ := one_arg eA.symm
    have R0 := R
    have key : ∀ {l : List Z} {z : Z}, b.z = some z → (z = .lst l ∨ z = .tup l) → b.pt l (k (.own (.lst l))) → ∃ p ys, [v] = [V.ref p] ∧ (SqL fr.K H p ys ∨ SqT fr.K H p ys) ∧ ∀ l, H l = none → Q (.ref l) (upd H l (.lst ys)) := fun {l z} e hl h => by
      obtain ⟨h, c⟩ := B.pt_ok h
      obtain ⟨S, R⟩ := R
      obtain ⟨p, vs, rfl, h1, h1', h0⟩ := P_parts (fstP R) e hl c
      refine ⟨p, vs, rfl, hl.elim (fun z => .inl (SqL.of (h1 z))) (fun z => .inr (h1' z)), fun a ha => ?_⟩
      have nz := h0 (newO a (.tmp T.length) (retm T.length .set S)) (upd H a (.lst vs)) (fun x o e _ => (upd_ne (ne_of_none e ha)).trans e) (fun x h c => (newO_ne (x := x) fun z => h (by rw [z]; exact ha)).trans (retm_set c)) (fun x h c => (newO_ne (x := x) fun z => h (by rw [z]; exact ha)).trans (retm_hi (Nat.le_refl _) c))
      exact kq _ h _ _ ⟨_, R.alloc ha (.inr rfl) (.inl rfl) (b := .own (.lst l)) ⟨a, _, rfl, newO_at, upd_same, nz⟩⟩
    split at h
    · rename_i l e
      exact key e (.inl rfl) h
    · rename_i l e
      exact key e (.inr rfl) h
    · exact h.elim
  · exact h.elim
/-! ### walks -/
theorem itl_ok {a : Addr} {vs : List V} {l : List Z} (ha : F a = some (.lst vs)) (hz : Zps fr.K F vs l) : ItZ fr F (Itl fr.K a) l where
  go := fun i H hi hF => by
    rw [← hz.len] at hi
    exact ⟨vs, _, SqL.of (hF _ _ ha), List.getElem?_eq_getElem hi⟩
  yld := fun i z Γ T σ H H' x e R hy => by
    obtain ⟨rfl, h⟩ := hy
    obtain ⟨w, h1, h2⟩ := zps_at hz e
    have := h vs (SqL.of (R.le _ _ ha))
    rw [h1] at this
    cases this
    exact Rel.push (A := []) (by rw [List.append_nil]; exact R) h2
  stop := fun i H hi hF => ⟨vs, SqL.of (hF _ _ ha), by rw [hz.len]; exact hi⟩
theorem sqt_le {K : PySem.W.Frag} {H H' : Hp} {a : Addr} {xs : List V} (h : SqT K H a xs) (e : Le H H') : SqT K H' a xs := by
  rcases h with (h | ⟨o, h⟩) | h
  · exact SqT.of (e _ _ h)
  · exact .inl (.inr ⟨o, e _ _ h⟩)
  · exact .inr h
theorem itt_ok {a : Addr} {vs : List V} {l : List Z} (ha : SqT fr.K F a vs) (hz : Zps fr.K F vs l) : ItZ fr F (Itt fr.K a) l where
  go := fun i H hi hF => by
    rw [← hz.len] at hi
    exact ⟨vs, _, sqt_le ha hF, List.getElem?_eq_getElem hi⟩
  yld := fun i z Γ T σ H H' x e R hy => by
    obtain ⟨rfl, h⟩ := hy
    obtain ⟨w, h1, h2⟩ := zps_at hz e
    have := h vs (sqt_le ha R.le)
    rw [h1] at this
    cases this
    exact Rel.push (A := []) (by rw [List.append_nil]; exact R) h2
  stop := fun i H hi hF => ⟨vs, sqt_le ha hF, by rw [hz.len]; exact hi⟩
/-- the settled temporary one, and the floor under it -/
theorem Rel.low {v : V} {z : Z} (R : Rel fr F Γ (T ++ [(v, B.set z)]) σ H) : ∃ F', Le F F' ∧ Rel fr F' Γ T σ H ∧ Zp fr.K F' v z := by
  obtain ⟨F', h1, h2, h3⟩ := R.floor
  exact ⟨F', h1, h2.drop, h3 T.length v z (by rw [List.getElem?_append_right (by omega), Nat.sub_self]; rfl)⟩
def zList (z : ZE) : ZI := fun Γ k => z Γ fun b => b.tk fun y => match y with
  | .lst l => k l
  | _ => False
theorem zi_list {t : TE} {z : ZE} (h : SE fr t z) : SI fr (iList fr.K t) (zList z) := by
  intro F Γ T σ H Q k R kq q
  refine h F Γ T σ H _ _ R (fun b hb v H1 R1 => ?_) q
  obtain ⟨y, hy, R1⟩ := R1.tk hb
  split at hy
  · rename_i l
    obtain ⟨F', h1, R2, h3⟩ := R1.low
    obtain ⟨a, vs, rfl, h4, h5⟩ := zp_lst h3
    exact ⟨a, rfl, ⟨vs, SqL.of (R2.le _ _ h4)⟩, kq _ hy F' _ _ h1 R2 (itl_ok h4 h5)⟩
  · exact hy.elim
def zTupI (z : ZE) : ZI := fun Γ k => z Γ fun b => b.tk fun y => match y with
  | .tup l => k l
  | _ => False
theorem zi_tup {t : TE} {z : ZE} (h : SE fr t z) : SI fr (iTup fr.K t) (zTupI z) := by
  intro F Γ T σ H Q k R kq q
  refine h F Γ T σ H _ _ R (fun b hb v H1 R1 => ?_) q
  obtain ⟨y, hy, R1⟩ := R1.tk hb
  split at hy
  · rename_i l
    obtain ⟨F', h1, R2, h3⟩ := R1.low
    obtain ⟨a, vs, rfl, h4, h5⟩ := zp_tup h3
    exact ⟨a, rfl, ⟨vs, sqt_le h4 R2.le⟩, kq _ hy F' _ _ h1 R2 (itt_ok h4 h5)⟩
  · exact hy.elim
def rngZ (lo : Int) (n : Nat) : List Z := (List.range n).map fun i => .int (lo + (i : Nat))
theorem rngZ_len (lo : Int) (n : Nat) : (rngZ lo n).length = n := by unfold rngZ; rw [List.length_map, List.length_range]
theorem rngZ_at {lo : Int} {n i : Nat} {z : Z} (h : (rngZ lo n)[i]? = some z) : i < n ∧ z = .int (lo + (i : Nat)) := by
  have hi := (List.getElem?_eq_some_iff.mp h).1
  rw [rngZ_len] at hi
  refine ⟨hi, ?_⟩
  unfold rngZ at h
  rw [List.getElem?_map, List.getElem?_range hi] at h
  exact (Option.some.inj h).symm
theorem itr_ok {lo : Int} {n : Nat} : ItZ fr F (Itr lo n) (rngZ lo n) where
  go := fun i H hi _ => by rw [rngZ_len] at hi; exact hi
  yld := fun i z Γ T σ H H' x e R hy => by
    obtain ⟨rfl, rfl⟩ := hy
    rw [(rngZ_at e).2]
    exact Rel.sc (A := []) (by rw [List.append_nil]; exact R) fun _ => .int _
  stop := fun i H hi _ => by rw [rngZ_len] at hi; exact hi
def zRng1 (z : ZA) : ZI := fun Γ k => z Γ fun bs => match bs with
  | [.set (.int j)] => (-(2 ^ 62) ≤ j ∧ j < 2 ^ 62) ∧ k (rngZ 0 j.toNat)
  | _ => False
theorem zi_rng1 {n : Nat} {t : TA} {z : ZA} (h : SA fr n t z) : SI fr (iRng1 t) (zRng1 z) := by
  intro F Γ T σ H Q k R kq q
  refine h F Γ T σ H _ _ R (fun bs hb A H1 e1 e2 R1 => ?_) q
  split at hb
  · rename_i j
    obtain ⟨v, rfl⟩ := one_arg e1.symm
    have := zp_int (Rel.zp R1 (j := 0) rfl rfl)
    subst this
    exact ⟨j, rfl, hb.1.1, hb.1.2, kq _ hb.2 F _ _ (fun _ _ e => e) R1.drop itr_ok⟩
  · exact hb.elim
theorem two_args {A : List (V × B)} {b c : B} (e : [b, c] = A.map (·.2)) : ∃ v w, A = [(v, b), (w, c)] := by
  match A, e with
  | [(v, _), (w, _)], e => cases e; exact ⟨v, w, rfl⟩
def zRng2 (z : ZA) : ZI := fun Γ k => z Γ fun bs => match bs with
  | [.set (.int i), .set (.int j)] => (-(2 ^ 62) ≤ i ∧ i < 2 ^ 62 ∧ -(2 ^ 62) ≤ j ∧ j < 2 ^ 62) ∧ k (rngZ i (j - i).toNat)
  | _ => False
theorem zi_rng2 {n : Nat} {t : TA} {z : ZA} (h : SA fr n t z) : SI fr (iRng2 t) (zRng2 z) := by
  intro F Γ T σ H Q k R kq q
  refine h F Γ T σ H _ _ R (fun bs hb A H1 e1 e2 R1 => ?_) q
  split at hb
  · rename_i i j
    obtain ⟨v, w, rfl⟩ := two_args e1.symm
    have h1 := zp_int (Rel.zp R1 (j := 0) rfl rfl)
    have h2 := zp_int (Rel.zp R1 (j := 1) rfl rfl)
    subst h1
    subst h2
    exact ⟨i, j, rfl, hb.1, kq _ hb.2 F _ _ (fun _ _ e => e) R1.drop itr_ok⟩
  · exact hb.elim
/-- pairs with their places -/
def enumZ (l : List Z) : List Z := l.zipIdx.map fun p => .tup [.int (p.2 : Nat), p.1]
theorem enumZ_len (l : List Z) : (enumZ l).length = l.length := by unfold enumZ; rw [List.length_map, List.length_zipIdx]
theorem enumZ_at {l : List Z} {i : Nat} {z : Z} (h : (enumZ l)[i]? = some z) : ∃ y, l[i]? = some y ∧ z = .tup [.int (i : Nat), y] := by
  unfold enumZ at h
  rw [List.getElem?_map, List.getElem?_zipIdx] at h
  cases e : l[i]? with
  | none => rw [e] at h; cases h
  | some y =>
    rw [e] at h
    refine ⟨y, rfl, ?_⟩
    have := Option.some.inj h
    rw [← this]
    simp
theorem ite_ok {a : Addr} {vs : List V} {l : List Z} (ha : F a = some (.lst vs)) (hz : Zps fr.K F vs l) : ItZ fr F (Ite fr.K a) (enumZ l) where
  go := fun i H hi hF => by
    rw [enumZ_len, ← hz.len] at hi
    exact ⟨vs, _, SqL.of (hF _ _ ha), List.getElem?_eq_getElem hi⟩
  yld := fun i z Γ T σ H H' x e R hy => by
    obtain ⟨t, y, rfl, ht, rfl, h⟩ := hy
    obtain ⟨zy, h1, rfl⟩ := enumZ_at e
    obtain ⟨w, h2, h3⟩ := zps_at hz h1
    have := h vs (SqL.of (R.le _ _ ha))
    rw [h2] at this
    cases this
    refine Rel.newT (A := []) (by rw [List.append_nil]; exact R) ht fun S R S' H' hk hS => .cons (.int _) (.cons ?_ .nil)
    refine h3.up fun x o e => ?_
    have := R.f x o e
    exact vw_le (fun x o e n c => ⟨hk x o e n, c.imp id fun c => decide_eq_true ((hS x (by rw [e]; simp)).trans (retm_set (of_decide_eq_true c)))⟩) x o this
  stop := fun i H hi hF => ⟨vs, SqL.of (hF _ _ ha), by rw [enumZ_len] at hi; rw [hz.len]; exact hi⟩
def zEnum (z : ZA) : ZI := fun Γ k => z Γ fun bs => match bs with
  | [b] => b.tk fun y => match y with
    | .lst l => k (enumZ l)
    | _ => False
  | _ => False
theorem zi_enum {n : Nat} {t : TA} {z : ZA} (h : SA fr n t z) : SI fr (iEnum fr.K t) (zEnum z) := by
  intro F Γ T σ H Q k R kq q
  refine h F Γ T σ H _ _ R (fun bs hb A H1 e1 e2 R1 => ?_) q
  split at hb
  · rename_i b
    obtain ⟨v, rfl⟩ := one_arg e1.symm
    obtain ⟨y, hy, R1⟩ := R1.tk hb
    split at hy
    · rename_i l
      obtain ⟨F', h1, R2, h3⟩ := R1.low
      obtain ⟨a, vs, rfl, h4, h5⟩ := zp_lst h3
      exact ⟨a, vs, rfl, SqL.of (R2.le _ _ h4), kq _ hy F' _ _ h1 R2 (ite_ok h4 h5)⟩
    · exact hy.elim
  · exact hb.elim
/-- zip of two -/
def zipZ (l m : List Z) : List Z := (l.zip m).map fun p => .tup [p.1, p.2]
theorem zipZ_at {l m : List Z} {i : Nat} {z : Z} (h : (zipZ l m)[i]? = some z) : ∃ x y, l[i]? = some x ∧ m[i]? = some y ∧ z = .tup [x, y] := by
  unfold zipZ at h
  rw [List.getElem?_map] at h
  cases e : (l.zip m)[i]? with
  | none => rw [e] at h; cases h
  | some p =>
    rw [e] at h
    obtain ⟨h1, h2⟩ := List.getElem?_zip_eq_some.mp e
    exact ⟨p.1, p.2, h1, h2, (Option.some.inj h).symm⟩
theorem zipZ_len (l m : List Z) : (zipZ l m).length = min l.length m.length := by unfold zipZ; rw [List.length_map, List.length_zip]
theorem itz_ok {a c : Addr} {vs ws : List V} {l m : List Z} (ha : F a = some (.lst vs)) (hc : F c = some (.lst ws)) (hz : Zps fr.K F vs l) (hw : Zps fr.K F ws m) : ItZ fr F (Itz fr.K a c) (zipZ l m) where
  go := fun i H hi hF => by
    rw [zipZ_len] at hi
    exact ⟨vs, ws, _, _, SqL.of (hF _ _ ha), SqL.of (hF _ _ hc), List.getElem?_eq_getElem (by rw [hz.len]; omega), List.getElem?_eq_getElem (by rw [hw.len]; omega)⟩
  yld := fun i z Γ T σ H H' x e R hy => by
    obtain ⟨t, x, y, rfl, ht, rfl, g1, g2⟩ := hy
    obtain ⟨zx, zy, h1, h1', rfl⟩ := zipZ_at e
    obtain ⟨w, h2, h3⟩ := zps_at hz h1
    obtain ⟨w', h2', h3'⟩ := zps_at hw h1'
    have e1 := g1 vs (SqL.of (R.le _ _ ha))
    have e2 := g2 ws (SqL.of (R.le _ _ hc))
    rw [h2] at e1
    rw [h2'] at e2
    cases e1
    cases e2
    refine Rel.newT (A := []) (by rw [List.append_nil]; exact R) ht fun S R S' H' hk hS => ?_
    have up : Le F (vw S' H' (eqO .set)) := fun x o e => vw_le (fun x o e n c => ⟨hk x o e n, c.imp id fun c => decide_eq_true ((hS x (by rw [e]; simp)).trans (retm_set (of_decide_eq_true c)))⟩) x o (R.f x o e)
    exact .cons (h3.up up) (.cons (h3'.up up) .nil)
  stop := fun i H hi hF => ⟨vs, ws, SqL.of (hF _ _ ha), SqL.of (hF _ _ hc), by rw [zipZ_len] at hi; rw [hz.len, hw.len]; omega⟩
def zZip (z : ZA) : ZI := fun Γ k => z Γ fun bs => match bs with
  | [b, c] => b.tk fun x => c.tk fun y => match x, y with
    | .lst l, .lst m => k (zipZ l m)
    | _, _ => False
  | _ => False
theorem Rel.swap {v : V} {b : B} {w : V} {z : Z} (R : Rel fr F Γ (T ++ [(v, b), (w, B.set z)]) σ H) : Rel fr F Γ (T ++ [(v, b)]) σ H ∧ True := ⟨by rw [show T ++ [(v, b), (w, B.set z)] = (T ++ [(v, b)]) ++ [(w, B.set z)] by rw [List.append_assoc]; rfl] at R; exact R.drop, True.intro⟩
theorem zi_zip {n : Nat} {t : TA} {z : ZA} (h : SA fr n t z) : SI fr (iZipA fr.K t) (zZip z) := by
  intro F Γ T σ H Q k R kq q
  refine h F Γ T σ H _ _ R (fun bs hb A H1 e1 e2 R1 => ?_) q
  split at hb
  · rename_i b c
    obtain ⟨v, w, rfl⟩ := two_args e1.symm
    obtain ⟨S, Rs⟩ := R1
    obtain ⟨p1, p2⟩ := Rel.two Rs
    obtain ⟨x, hx, g1⟩ := P_tk p1 hb
    obtain ⟨y, hy, g2⟩ := P_tk p2 hx
    split at hy
    · rename_i l m
      have k1 := g1 (retm T.length .set S) H1 (fun _ _ e _ => e) (fun _ _ c => retm_set c) (fun _ _ c => retm_hi (Nat.le_refl _) c)
      have k2 := g2 (retm T.length .set S) H1 (fun _ _ e _ => e) (fun _ _ c => retm_set c) (fun _ _ c => retm_hi (by omega) c)
      have R2 := Rs.ext (Rs.go.retm T.length (.inl rfl)) (fun _ _ e _ => e) (fun _ _ h => retm_drw h) (fun _ _ h => retm_set h) (fun _ _ _ h => retm_slot h) (fun _ _ _ hj h => retm_lo hj h) (v := .non) (b := .set .non) .non
      have R3 : Rel fr (vw (retm T.length .set S) H1 (eqO .set)) Γ T σ H1 := Rel.drop ⟨_, R2.go, fun _ _ e => e, R2.len, R2.sl, R2.tm, R2.nb⟩
      obtain ⟨a, vs, rfl, h4, h5⟩ := zp_lst k1
      obtain ⟨a', ws, rfl, h4', h5'⟩ := zp_lst k2
      exact ⟨a, a', vs, ws, rfl, .inl ⟨SqL.of (R3.le _ _ h4), SqL.of (R3.le _ _ h4'), kq _ hy _ _ _ R2.f R3 (itz_ok h4 h4' h5 h5')⟩⟩
    · exact hy.elim
  · exact hb.elim
/-! ### for -/
/-- a loop, by its invariant -/
structure ForP (turn : Z → G → (G → Prop) → Prop) (zs : List Z) (Γ : G) (K : G → Prop) : Prop where
  ex : ∃ P : Nat → G → Prop, P 0 Γ ∧ (∀ i z Γ', zs[i]? = some z → P i Γ' → turn z Γ' (P (i + 1))) ∧ ∀ Γ', P zs.length Γ' → K Γ'
theorem ForP.inv {turn : Z → G → (G → Prop) → Prop} {zs : List Z} {Γ : G} {K : G → Prop} (P : Nat → G → Prop) (h0 : P 0 Γ) (ht : ∀ i z Γ', zs[i]? = some z → P i Γ' → turn z Γ' (P (i + 1))) (he : ∀ Γ', P zs.length Γ' → K Γ') : ForP turn zs Γ K := ⟨P, h0, ht, he⟩
def forTurn (g : ZG) (zb : ZS) (D : ZEnds) : Z → G → (G → Prop) → Prop := fun z Γ N => g (.set z) Γ fun Γ2 => zb { D with nx := N, ct := N, bk := D.nx } Γ2
def zFor (w : ZI) (g : ZG) (zb : ZS) : ZS := fun D Γ => w Γ fun zs => ForP (forTurn g zb D) zs Γ D.nx
theorem z_for {w : TI} {zw : ZI} {g : TG} {zg : ZG} {tb : TS} {zb : ZS} (hw : SI fr w zw) (hg : SG fr g zg) (hb : SS fr tb zb) : SS fr (tFor w g tb) (zFor zw zg zb) := by
  intro F Γ σ H zD D R hD q
  refine hw F Γ [] σ H _ _ R (fun zs hz F' J H1 hF R1 hJ => ?_) q
  obtain ⟨P, p0, pt, pe⟩ := hz.ex
  refine ⟨fun i m σ' H' => m = zs.length - i ∧ i ≤ zs.length ∧ ∃ Γ', Rel fr F' Γ' [] σ' H' ∧ P i Γ', ⟨zs.length, rfl, Nat.zero_le _, Γ, R1, p0⟩, ?_⟩
  rintro i m σ1 H2 ⟨rfl, hi, Γ1, R2, p1⟩
  by_cases hlt : i < zs.length
  · refine .inr ⟨hJ.go i H2 hlt R2.le, fun σ' H' => ∃ Γ', Rel fr F' Γ' [] σ' H' ∧ P (i + 1) Γ', fun σ' H' ⟨Γ', R', p'⟩ => ⟨zs.length - (i + 1), by omega, rfl, hlt, Γ', R', p'⟩, fun x H3 hy => ?_⟩
    have R3 := hJ.yld i zs[i] Γ1 [] σ1 H2 H3 x (List.getElem?_eq_getElem hlt) R2 hy
    refine hg F' Γ1 [] σ1 H3 x _ _ _ R3 (fun Γ2 q2 σ2 H4 R4 => ?_) (pt i _ Γ1 (List.getElem?_eq_getElem hlt) p1)
    exact hb F' Γ2 σ2 H4 { zD with nx := P (i + 1), ct := P (i + 1), bk := zD.nx } _ R4 ⟨fun Γ σ H R q => ⟨Γ, R, q⟩, fun Γ σ H R q => hD.nx _ _ _ (R.weak hF) q, fun Γ σ H R q => ⟨Γ, R, q⟩, fun Γ v b σ H R q => hD.rt _ _ _ _ _ (R.weak hF) q⟩ q2
  · obtain rfl : i = zs.length := by omega
    exact .inl ⟨hJ.stop _ H2 (Nat.le_refl _) R2.le, hD.nx _ _ _ (R2.weak hF) (pe Γ1 p1)⟩
end
end Rt

set_option autoImplicit false
namespace Rt
open PySem PySem.Spec PyProof.Rows L2 RZ LamX
variable [TabsT]
section
variable {fr : Fr} {F F' : Hp} {Γ : G} {T A : List (V × B)} {σ : L2.St} {H H' : Hp} {S S' : Addr → Own}
/-! ### a thing of one's own is turned -/
theorem tabs_upd {T : List (Addr × Str)} {H : Hp} {p : Addr} {o o' : HO} (t : Tabs T H) (hp : H p = some o) (n1 : isTbl o = false) (n2 : ∀ c q, o ≠ CodeO c q) : Tabs T (upd H p o') := by
  intro x hx
  obtain ⟨ps, h1, h2, h3⟩ := t x hx
  refine ⟨ps, (upd_ne fun z => ?_).trans h1, h2, fun pos cv hc => ?_⟩
  · rw [z, hp] at h1
    cases h1
    cases n1
  · obtain ⟨c, e1, e2⟩ := h3 pos cv hc
    refine ⟨c, e1, (upd_ne fun z => ?_).trans e2⟩
    rw [z, hp] at e2
    exact n2 _ _ (Option.some.inj e2)
structure Mut (fr : Fr) (F : Hp) (H : Hp) (S : Addr → Own) (p : Addr) (o' : HO) (w : Own) : Prop where
  go : GoZ fr S (upd H p o')
  f : Le F (vw S (upd H p o') (eqO .set))
  b : ∀ (me : Own) (v : V) (b : B), b.P fr.K S H me v → me ≠ w → (∀ st is z, b = .bor st is z → ∀ i ∈ is, Own.slot i ≠ w) → (∀ i s, b = .bwl i s → Own.slot i ≠ w) → b.P fr.K S (upd H p o') me v
  z : Le (vw S H (eqO .set)) (vw S (upd H p o') (eqO .set))
theorem RelS.mut (R : RelS fr F Γ T σ H S) {p : Addr} {o o' : HO} {w : Own} (hp : H p = some o) (n1 : isTup o = false) (n2 : isTbl o = false) (n3 : ∀ c q, o ≠ CodeO c q) (hw : S p = w) (ws : w ≠ .set) (wo : w ≠ .out) (wd : w ≠ .drw) : Mut fr F H S p o' w := by
  have keep : ∀ {q : Own → Bool}, q w = false → Le (vw S H q) (vw S (upd H p o') q) := fun {q} hq => vw_le fun x u e n c => by
    refine ⟨(upd_ne fun z => ?_).trans e, c⟩
    subst z
    rw [hp] at e
    cases e
    rcases c with c | c
    · rw [n1] at c; cases c
    · rw [hw, hq] at c; cases c
  have ks := keep (q := eqO .set) (decide_eq_false ws)
  refine ⟨⟨fun x u e => ks x u (R.go.up x u e), fun b u e t n => ?_, fun b e => ?_, R.go.new, R.go.ownS, R.go.ownT, R.go.ownD, tabs_upd R.go.tabs hp n2 n3⟩, fun x u e => ks x u (R.f x u e), fun me v b h hm hb hw2 => ?_, ks⟩
  · refine (upd_ne fun z => ?_).trans (R.go.keep b u e t n)
    subst z
    cases h : S b with
    | set => exact ws (hw ▸ h)
    | out => exact wo (hw ▸ h)
    | drw => exact wd (hw ▸ h)
    | slot i =>
      rcases R.go.ownS b i h with q | q
      · rw [q] at e; cases e
      · exact n q
    | tmp j => rw [R.go.ownT b j h] at e; cases e
  · by_cases z : b = p
    · rw [z, upd_same]; simp
    · rw [upd_ne z]; exact R.go.there b e
  · refine h.move (fun x u e n c => (upd_ne fun z => ?_).trans e) (fun _ _ h => h) (fun _ _ h => h) (fun _ _ h => h) (fun st is z e i hi x _ h => .inl h) fun i s _ x _ h => h
    subst z
    rw [hp] at e
    cases e
    rcases c with c | c | c | ⟨st, is, z, e, i, hi, c⟩ | ⟨d, eb, ed⟩ | ⟨i, s, eb, c⟩
    · rw [n1] at c; cases c
    · exact ws (hw ▸ c)
    · exact hm (c ▸ hw)
    · exact hb st is z e i hi (c ▸ hw)
    · subst eb
      subst ed
      exact wd (hw ▸ h.2.1)
    · exact hw2 i s eb (c ▸ hw)
theorem lst_no {vs : List V} : ∀ c q, HO.lst vs ≠ CodeO c q := fun c q z => by unfold CodeO at z; cases z
/-- one's own list, at its slot -/
theorem Rel.ownL (R : Rel fr F Γ T σ H) {i : Nat} {l : List Z} (e : Γ[i]? = some (some (.own (.lst l)))) : ∃ S a vs, RelS fr F Γ T σ H S ∧ σ[i]? = some (some (.ref a)) ∧ H a = some (.lst vs) ∧ S a = .slot i ∧ Zps fr.K (vw S H (eqO .set)) vs l := by
  obtain ⟨S, R⟩ := R
  obtain ⟨v, h1, a, vs, rfl, h2, h3, h4⟩ := R.sl i _ e
  exact ⟨S, a, vs, R, h1, h3, h2, h4⟩
/-- it holds others now -/
theorem RelS.putL (R : RelS fr F Γ T σ H S) {i : Nat} {a : Addr} {vs ws : List V} {m : List Z} (h1 : σ[i]? = some (some (.ref a))) (h2 : H a = some (.lst vs)) (h3 : S a = .slot i) (h4 : Zps fr.K (vw S H (eqO .set)) ws m) : Rel fr F (Γ.set i (some (.own (.lst m)))) [] σ (upd H a (.lst ws)) := by
  have M := R.mut (o' := .lst ws) h2 rfl rfl lst_no h3 (fun z => nomatch z) (fun z => nomatch z) (fun z => nomatch z)
  refine ⟨S, M.go, M.f, by rw [List.length_set]; exact R.len, fun j b e => ?_, fun j v b e => by simp at e, fun j b e => ?_⟩
  rcases slot_set e with ⟨rfl, rfl, hl⟩ | ⟨hj, e⟩
  · exact ⟨_, h1, a, ws, rfl, h3, upd_same, h4.up M.z⟩
  · obtain ⟨v, g1, g2⟩ := R.sl j b e
    refine ⟨v, g1, M.b _ v b g2 (fun z => hj (by cases z; rfl)) (fun st is z eb => by have := R.nb j b e; rw [eb] at this; cases this) fun i s eb => by have := R.nb j b e; rw [eb] at this; cases this⟩
  · rcases slot_set e with ⟨_, e, _⟩ | ⟨_, e⟩
    · rw [e]; rfl
    · exact R.nb j b e
/-- xs.append(e), a statement -/
def zApp (i : Nat) (z : ZE) : ZS := fun D Γ => match Γ[i]? with
  | some (some (.own (.lst l))) => z Γ fun b => b.tk fun y => l.length < 1000000 ∧ D.nx (Γ.set i (some (.own (.lst (l ++ [y])))))
  | _ => False
theorem z_app {t : TE} {z : ZE} (i : Nat) (h : SE fr t z) : SS fr (tDrop (tBM fr.K "list" rAppend (tVar i) (tCons t tNil))) (zApp i z) := by
  intro F Γ σ H zD D R hD q
  unfold zApp at q
  split at q
  · rename_i l e
    obtain ⟨S, a, vs, R0, h1, h2, h3, h4⟩ := R.ownL e
    refine ⟨_, h1, .inl ⟨rfl, vs, SqL.of h2⟩, ?_⟩
    refine h F Γ [] σ H _ _ R (fun b hb v H1 R1 => ?_) q
    obtain ⟨y, hy, R1⟩ := R1.tk hb
    obtain ⟨S, a', vs, R2, h1', h2, h3, h4⟩ := R1.ownL e
    rw [h1] at h1'
    cases h1'
    refine ⟨a, vs, v, rfl, rfl, h2, mem_lt (by rw [h4.len]; omega), ?_⟩
    have hv : Zp fr.K (vw S H1 (eqO .set)) v y := R2.tm 0 v _ rfl
    exact hD.nx _ _ _ (R2.putL h1 h2 h3 (zps_app h4 (.cons hv .nil))) hy.2
  · exact q.elim
/-! ### comprehensions -/
def gw (Γ : G) : List Nat → G
  | [] => Γ
  | v :: vs => (gw Γ vs).set v none
theorem gw_len (Γ : G) : ∀ vs : List Nat, (gw Γ vs).length = Γ.length
  | [] => rfl
  | v :: vs => by unfold gw; rw [List.length_set, gw_len Γ vs]
theorem gw_some {i : Nat} {b : B} : ∀ {vs : List Nat}, (gw Γ vs)[i]? = some (some b) → Γ[i]? = some (some b) ∧ i ∉ vs
  | [], h => ⟨h, by simp⟩
  | v :: vs, h => by
    unfold gw at h
    rw [List.getElem?_set] at h
    by_cases e : v = i
    · rw [if_pos e] at h
      split at h <;> simp at h
    · rw [if_neg e] at h
      obtain ⟨h1, h2⟩ := gw_some h
      exact ⟨h1, by simp [Ne.symm e, h2]⟩
/-- names of a block are no more -/
theorem Rel.wipe (R : Rel fr F Γ T σ H) (vs : List Nat) : Rel fr F (gw Γ vs) T (wipe σ vs) H := by
  obtain ⟨S, R⟩ := R
  refine ⟨S, R.go, R.f, by rw [gw_len, wipe_length]; exact R.len, fun i b e => ?_, R.tm, fun i b e => R.nb i b (gw_some e).1⟩
  obtain ⟨h1, h2⟩ := gw_some e
  obtain ⟨v, h3, h4⟩ := R.sl i b h1
  exact ⟨v, by rw [wipe_out h2]; exact h3, h4⟩
/-- and the names ahead of the block are as they were -/
theorem Rel.back {Γ2 : G} {σ2 : L2.St} {vs : List Nat} (R : Rel fr F Γ2 T σ2 H) (hg : gw Γ2 vs = Γ) (hw : L2.wipe σ2 vs = L2.wipe σ vs) : Rel fr F Γ T σ H := by
  obtain ⟨S, R⟩ := R.wipe vs
  rw [hg, hw] at R
  refine ⟨S, R.go, R.f, by rw [R.len, wipe_length], fun i b e => ?_, R.tm, R.nb⟩
  obtain ⟨v, h1, h2⟩ := R.sl i b e
  exact ⟨v, (wipe_some h1).1, h2⟩
/-- a target of names of the block alone -/
def GW (vs : List Nat) (g : TG) : Prop := ∀ v σ H (Q Q' : L2.St → Hp → Prop), (∀ σ' H', L2.wipe σ' vs = L2.wipe σ vs → Q σ' H' → Q' σ' H') → g v σ H Q → g v σ H Q'
def GWs (vs : List Nat) (g : TGs) : Prop := ∀ v σ H (Q Q' : L2.St → Hp → Prop), (∀ σ' H', L2.wipe σ' vs = L2.wipe σ vs → Q σ' H' → Q' σ' H') → g v σ H Q → g v σ H Q'
theorem wipe_set {σ : L2.St} {i : Nat} {o : Option V} : ∀ {vs : List Nat}, i ∈ vs → L2.wipe (σ.set i o) vs = L2.wipe σ vs
  | v :: vs, h => by
    show (L2.wipe (σ.set i o) vs).set v none = (L2.wipe σ vs).set v none
    by_cases c : i ∈ vs
    · rw [wipe_set c]
    · have e : i = v := (List.mem_cons.mp h).resolve_right c
      subst e
      refine List.ext_getElem? fun j => ?_
      rw [List.getElem?_set, List.getElem?_set, wipe_length, wipe_length, List.length_set]
      by_cases hj : i = j
      · rw [if_pos hj, if_pos hj]
      · rw [if_neg hj, if_neg hj]
        by_cases hm : j ∈ vs
        · have key : ∀ (τ : L2.St) (ws : List Nat), j ∈ ws → (L2.wipe τ ws)[j]? = if j < τ.length then some none else none := fun τ ws hw => by
            induction ws with
            | nil => cases hw
            | cons w ws ih =>
              show ((L2.wipe τ ws).set w none)[j]? = _
              rw [List.getElem?_set, wipe_length]
              by_cases e : w = j
              · rw [if_pos e, e]
              · rw [if_neg e]
                exact ih ((List.mem_cons.mp hw).resolve_left fun z => e z.symm)
          rw [key _ _ hm, key _ _ hm, List.length_set]
        · rw [wipe_out hm, wipe_out hm, List.getElem?_set_ne hj]
theorem gw_name {vs : List Nat} {i : Nat} (h : i ∈ vs := by decide) : GW vs (gName i) := fun v σ H Q Q' m q => m _ _ (wipe_set h) q
theorem gw_nil {vs : List Nat} : GWs vs gNil := fun v σ H Q Q' m ⟨e, q⟩ => ⟨e, m _ _ rfl q⟩
theorem gw_cons {vs : List Nat} {t : TG} {u : TGs} (h1 : GW vs t) (h2 : GWs vs u) : GWs vs (gCons t u) := fun v σ H Q Q' m ⟨x, r, e, q⟩ =>
  ⟨x, r, e, h1 x σ H _ _ (fun σ' H' e' q' => h2 r σ' H' Q Q' (fun σ2 H2 e2 q2 => m σ2 H2 (e2.trans e') q2) q') q⟩
theorem gw_tup {vs : List Nat} {K : PySem.W.Frag} {n : Nat} {t : TGs} (h : GWs vs t) : GW vs (gTup K n t) := fun v σ H Q Q' m ⟨a, xs, e, s, l, q⟩ => ⟨a, xs, e, s, l, h xs σ H Q Q' m q⟩
theorem wipe_wipe (σ : L2.St) (vs : List Nat) : ∀ ws : List Nat, (∀ w ∈ ws, w ∈ vs) → L2.wipe (L2.wipe σ ws) vs = L2.wipe σ vs
  | [], _ => rfl
  | w :: ws, h => (wipe_set (h w (.head _))).trans (wipe_wipe σ vs ws fun x hx => h x (.tail _ hx))
/-- to the list in the making -/
theorem Rel.appT {D : Addr} {l : List Z} {y : V} {z : Z} (R : Rel fr F Γ (T ++ [(.ref D, B.own (.lst l)), (y, B.set z)]) σ H) : ∃ vs, H D = some (.lst vs) ∧ vs.length = l.length ∧ Rel fr F Γ (T ++ [(.ref D, B.own (.lst (l ++ [z])))]) σ (upd H D (.lst (vs ++ [y]))) := by
  obtain ⟨S, R⟩ := R
  obtain ⟨p1, p2⟩ := Rel.two R
  obtain ⟨a, vs, e, h1, h2, h3⟩ := p1
  cases e
  have M := R.mut (o' := .lst (vs ++ [y])) h2 rfl rfl lst_no h1 (fun z => nomatch z) (fun z => nomatch z) (fun z => nomatch z)
  refine ⟨vs, h2, h3.len, S, M.go, M.f, R.len, fun j b e => ?_, fun j v b e => ?_, R.nb⟩
  · obtain ⟨v, g1, g2⟩ := R.sl j b e
    exact ⟨v, g1, M.b _ v b g2 (fun z => nomatch z) (fun st is z eb i hi z => nomatch z) fun i s eb z => nomatch z⟩
  · by_cases hj : j < T.length
    · rw [List.getElem?_append_left hj] at e
      exact M.b _ v b (R.tm j v b (by rw [List.getElem?_append_left hj]; exact e)) (fun z => by cases z; exact Nat.lt_irrefl _ hj) (fun st is z eb k hk z => nomatch z) fun i s eb z => nomatch z
    · rw [List.getElem?_append_right (by omega)] at e
      have hj2 : j = T.length := by
        have := (List.getElem?_eq_some_iff.mp e).1
        have : j - T.length < 1 := this
        omega
      subst hj2
      rw [Nat.sub_self] at e
      cases e
      exact ⟨D, _, rfl, h1, upd_same, zps_app (h3.up M.z) (.cons (Zp.up M.z p2) .nil)⟩
/-- the items' making, by its invariant -/
structure LiP (turn : Z → (Z → Prop) → Prop → Prop) (zs : List Z) (K : List Z → Prop) : Prop where
  len : zs.length ≤ 1000000
  ex : ∃ P : Nat → List Z → Prop, P 0 [] ∧ (∀ i z acc, zs[i]? = some z → P i acc → turn z (fun y => P (i + 1) (acc ++ [y])) (P (i + 1) acc)) ∧ ∀ acc, P zs.length acc → K acc
theorem LiP.inv {turn : Z → (Z → Prop) → Prop → Prop} {zs : List Z} {K : List Z → Prop} (hl : zs.length ≤ 1000000) (P : Nat → List Z → Prop) (h0 : P 0 []) (ht : ∀ i z acc, zs[i]? = some z → P i acc → turn z (fun y => P (i + 1) (acc ++ [y])) (P (i + 1) acc)) (he : ∀ acc, P zs.length acc → K acc) : LiP turn zs K := ⟨hl, P, h0, ht, he⟩
theorem takeS {α : Type} {l : List α} {i : Nat} {x : α} (h : l[i]? = some x) : l.take (i + 1) = l.take i ++ [x] := by
  rw [List.take_add_one, h]
  rfl
/-- each item is made in one way: which ones by p, what by f -/
theorem LiP.det {α : Type} {turn : Z → (Z → Prop) → Prop → Prop} {xs : List α} {em : α → Z} {K : List Z → Prop} (p : α → Bool) (f : α → Z) (hl : xs.length ≤ 1000000) (ht : ∀ x ∈ xs, ∀ kt kf, (p x = true → kt (f x)) → (p x = false → kf) → turn (em x) kt kf) (he : K ((xs.filter p).map f)) : LiP turn (xs.map em) K := by
  refine LiP.inv (by rw [List.length_map]; exact hl) (fun i acc => acc = ((xs.take i).filter p).map f) rfl (fun i z acc hz e => ?_) fun acc e => ?_
  · rw [List.getElem?_map] at hz
    cases q : xs[i]? with
    | none => rw [q] at hz; cases hz
    | some x =>
      rw [q] at hz
      cases hz
      subst e
      refine ht x (List.mem_of_getElem? q) _ _ (fun h => ?_) fun h => ?_
      · rw [takeS q, List.filter_append, List.map_append, List.filter_cons_of_pos h]
        rfl
      · rw [takeS q, List.filter_append, List.map_append, List.filter_cons_of_neg (by rw [h]; exact Bool.false_ne_true)]
        exact (List.append_nil _).symm
  · rw [List.length_map, List.take_length] at e
    rw [e]
    exact he
/-- no test -/
theorem LiP.map {α : Type} {turn : Z → (Z → Prop) → Prop → Prop} {xs : List α} {em : α → Z} {K : List Z → Prop} (f : α → Z) (hl : xs.length ≤ 1000000) (ht : ∀ x ∈ xs, ∀ kt kf, kt (f x) → turn (em x) kt kf) (he : K (xs.map f)) : LiP turn (xs.map em) K :=
  LiP.det (fun _ => true) f hl (fun x hx kt kf h _ => ht x hx kt kf (h rfl)) (by rw [List.filter_eq_self.mpr fun _ _ => rfl]; exact he)
def lcTurn (g : ZG) (zt : ZT) (ze : ZE) (vs : List Nat) (Γ : G) : Z → (Z → Prop) → Prop → Prop := fun z kt kf => g (.set z) (gw Γ vs) fun Γ2 => gw Γ2 vs = Γ ∧ zt Γ2 fun c => zite c (ze Γ2 fun b => b.tk kt) kf
def zLc (w : ZI) (g : ZG) (zt : ZT) (ze : ZE) (vs : List Nat) : ZE := fun Γ k => w Γ fun zs => LiP (lcTurn g zt ze vs Γ) zs fun acc => k (.own (.lst acc))
theorem z_lc {w : TI} {zw : ZI} {g : TG} {zg : ZG} {tt : TT} {zt : ZT} {te : TE} {ze : ZE} {vs : List Nat} (hw : SI fr w zw) (hg : SG fr g zg) (gwf : GW vs g) (ht : ST fr tt zt) (he : SE fr te ze) : SE fr (tLc w g tt te vs) (zLc zw zg zt ze vs) := by
  intro F Γ T σ H Q k R kq q
  refine hw F Γ T σ H _ _ R (fun zs hz F' J H1 hF R1 hJ => ?_) q
  obtain ⟨hl, P, p0, pt, pe⟩ := hz
  intro D hD
  have R2 : Rel fr F' Γ (T ++ [(.ref D, B.own (.lst []))]) σ (upd H1 D (.lst [])) := Rel.newL (A := []) (by rw [List.append_nil]; exact R1) hD fun _ _ _ _ _ _ => .nil
  refine ⟨fun i m H' => m = zs.length - i ∧ i ≤ zs.length ∧ ∃ acc : List Z, acc.length ≤ i ∧ Rel fr F' Γ (T ++ [(.ref D, B.own (.lst acc))]) σ H' ∧ P i acc, ⟨zs.length, rfl, Nat.zero_le _, [], Nat.zero_le _, R2, p0⟩, ?_⟩
  rintro i m H2 ⟨rfl, hi, acc, la, R3, p1⟩
  by_cases hlt : i < zs.length
  · refine .inr ⟨hJ.go i H2 hlt R3.le, fun H' => ∃ acc : List Z, acc.length ≤ i + 1 ∧ Rel fr F' Γ (T ++ [(.ref D, B.own (.lst acc))]) σ H' ∧ P (i + 1) acc, fun H' ⟨acc, l', R', p'⟩ => ⟨zs.length - (i + 1), by omega, rfl, hlt, acc, l', R', p'⟩, fun x H3 hy => ?_⟩
    have R4 := (hJ.yld i zs[i] Γ _ σ H2 H3 x (List.getElem?_eq_getElem hlt) R3 hy).wipe vs
    have st := hg F' (gw Γ vs) _ (L2.wipe σ vs) H3 x _ (fun σ2 H4 => L2.wipe σ2 vs = L2.wipe σ vs → tt σ2 H4 fun b H3 =>
      if b = true then te σ2 H3 fun y H4 => ∃ acc, H4 D = some (.lst acc) ∧ acc.length < sizeLine ∧ (fun H' => ∃ acc : List Z, acc.length ≤ i + 1 ∧ Rel fr F' Γ (T ++ [(.ref D, B.own (.lst acc))]) σ H' ∧ P (i + 1) acc) (upd H4 D (.lst (acc ++ [y]))) else (fun H' => ∃ acc : List Z, acc.length ≤ i + 1 ∧ Rel fr F' Γ (T ++ [(.ref D, B.own (.lst acc))]) σ H' ∧ P (i + 1) acc) H3) _ R4 (fun Γ2 q2 σ2 H4 R5 ew => ?_) (pt i _ acc (List.getElem?_eq_getElem hlt) p1)
    · refine gwf _ _ _ _ _ (fun σ' H' e q => ?_) st
      have e2 : L2.wipe σ' vs = L2.wipe σ vs := e.trans (wipe_wipe σ vs vs fun _ h => h)
      exact ⟨e2, q e2⟩
    · refine ht F' Γ2 _ σ2 H4 _ _ R5 (fun c hc H5 R6 => ?_) q2.2
      cases c with
      | true =>
        refine he F' Γ2 _ σ2 H5 _ _ R6 (fun b hb y H6 R7 => ?_) (hc.1 rfl)
        obtain ⟨z, hz, R7⟩ := Rel.tk R7 hb
        rw [List.append_assoc] at R7
        obtain ⟨ws, g1, g2, g3⟩ := Rel.appT R7
        exact ⟨ws, g1, mem_lt (by omega), acc ++ [z], by rw [List.length_append]; exact Nat.succ_le_succ la, g3.back q2.1 ew, hz⟩
      | false => exact ⟨acc, Nat.le_succ_of_le la, R6.back q2.1 ew, hc.2 rfl⟩
  · obtain rfl : i = zs.length := by omega
    exact .inl ⟨hJ.stop _ H2 (Nat.le_refl _) R3.le, kq _ (pe acc p1) _ _ (R3.weak hF)⟩
/-- no test -/
def zYes : ZT := fun _ k => k true
theorem z_yes : ST fr tYes zYes := fun F Γ T σ H Q k R kq q => kq _ q _ R
end
end Rt

namespace Rt
open PySem PySem.Spec PyProof.Rows L2 LamX
/-- all that is read off the written part of an error's class -/
structure ErrF (K : PySem.W.Frag) (x z word : Str) (C CT CM fI : Addr) (tape : Bool) : Prop where
  g : PySem.W.nsIn K mainGlobals x = some (some (.ref C))
  gT : PySem.W.nsIn K mainGlobals "TapeError" = some (some (.ref CT))
  gM : PySem.W.nsIn K mainGlobals "MissingError" = some (some (.ref CM))
  cls : ∃ nm q N bs bm sn sub ab col dd k0 k1 k2 k3 k5, K.lookup C = some (excClassObj nm q C N bs bm true sn sub ab col dd k0 k1 k2 k3 k5 "ValueError.__new__") ∧ PySem.HandSPX.refsVE bm = true
  nm : ∃ o tk, K.lookup C = some o ∧ (o.slots[2]?).join = some (.str z tk)
  sa : PySem.W.findIn K (.ref C) "__setattr__" = some (some (.builtin "object.__setattr__"))
  exC : PySem.W.subIn K (.ref C) (.type "BaseException") = some true
  tyC : PySem.W.typeIn K (.ref C) = some (.type "type")
  kC : PySem.W.keepIn K (.ref C) = true
  ga : PySem.W.findIn K (.ref C) "__getattribute__" = some (some (.builtin "BaseException.__getattribute__"))
  gg : PySem.W.findIn K (.ref C) "__getattr__" = some none
  hd : PySem.W.hasDictIn K C = true
  ca : PySem.W.findIn K (.ref C) "__class__" = some (some (.builtin "object.__class__"))
  cg : PySem.W.specialIn K (.builtin "object.__class__") "__get__" = some (some (.builtin "getset_descriptor.__get__"))
  ct : PySem.W.takesIn K (.builtin "object.__class__") = some true
  mo : PySem.W.mroIn K C (.type "object") = some true
  rd : PySem.W.readsIn K C (.type "type") = true
  fc : PySem.W.findCls K (.ref C) (.type "type") "__name__" = some (.get (.builtin "getset_descriptor.__get__") (.builtin "type.__name__") (.ref C) (.type "type"))
  nc : PySem.W.findIn K (.ref C) "called" = some none
  iC : PySem.W.findIn K (.ref C) "__init__" = some (some (.ref fI))
  tI : PySem.W.typeIn K (.ref fI) = some (.type "function")
  t1 : PySem.W.subIn K (.ref CT) (.type "BaseException") = some true
  t2 : PySem.W.hasDictIn K CT = true
  t3 : PySem.W.typeIn K (.ref CT) = some (.type "type")
  t4 : PySem.W.subIn K (.ref C) (.ref CT) = some tape
  u1 : PySem.W.subIn K (.ref CM) (.type "BaseException") = some true
  u2 : PySem.W.hasDictIn K CM = true
  u3 : PySem.W.typeIn K (.ref CM) = some (.type "type")
  u4 : PySem.W.subIn K (.ref C) (.ref CM) = some (!tape)
  low : Txt.lower z = word
  sz : z.length ≤ 1000
theorem errF_of {K : PySem.W.Frag} {x z word : Str} {C CT CM fI : Addr} {tape : Bool} {nm q : Str} {N : Addr} {bs bm : List Value} {sn : List Str} {sub : List Value} {ab : Bool} {col : Option Bool} {dd : Option Addr} {k0 k1 k2 k3 k5 : Option Value} {o : Obj} {tk : Tok}
    (g : PySem.W.nsIn K mainGlobals x = some (some (.ref C)))
    (gT : PySem.W.nsIn K mainGlobals "TapeError" = some (some (.ref CT)))
    (gM : PySem.W.nsIn K mainGlobals "MissingError" = some (some (.ref CM)))
    (cls1 : K.lookup C = some (excClassObj nm q C N bs bm true sn sub ab col dd k0 k1 k2 k3 k5 "ValueError.__new__")) (cls2 : PySem.HandSPX.refsVE bm = true)
    (nm1 : K.lookup C = some o) (nm2 : (o.slots[2]?).join = some (.str z tk))
    (sa : PySem.W.findIn K (.ref C) "__setattr__" = some (some (.builtin "object.__setattr__")))
    (exC : PySem.W.subIn K (.ref C) (.type "BaseException") = some true)
    (tyC : PySem.W.typeIn K (.ref C) = some (.type "type"))
    (kC : PySem.W.keepIn K (.ref C) = true)
    (ga : PySem.W.findIn K (.ref C) "__getattribute__" = some (some (.builtin "BaseException.__getattribute__")))
    (gg : PySem.W.findIn K (.ref C) "__getattr__" = some none)
    (hd : PySem.W.hasDictIn K C = true)
    (ca : PySem.W.findIn K (.ref C) "__class__" = some (some (.builtin "object.__class__")))
    (cg : PySem.W.specialIn K (.builtin "object.__class__") "__get__" = some (some (.builtin "getset_descriptor.__get__")))
    (ct : PySem.W.takesIn K (.builtin "object.__class__") = some true)
    (mo : PySem.W.mroIn K C (.type "object") = some true)
    (rd : PySem.W.readsIn K C (.type "type") = true)
    (fc : PySem.W.findCls K (.ref C) (.type "type") "__name__" = some (.get (.builtin "getset_descriptor.__get__") (.builtin "type.__name__") (.ref C) (.type "type")))
    (nc : PySem.W.findIn K (.ref C) "called" = some none)
    (iC : PySem.W.findIn K (.ref C) "__init__" = some (some (.ref fI)))
    (tI : PySem.W.typeIn K (.ref fI) = some (.type "function"))
    (t1 : PySem.W.subIn K (.ref CT) (.type "BaseException") = some true)
    (t2 : PySem.W.hasDictIn K CT = true)
    (t3 : PySem.W.typeIn K (.ref CT) = some (.type "type"))
    (t4 : PySem.W.subIn K (.ref C) (.ref CT) = some tape)
    (u1 : PySem.W.subIn K (.ref CM) (.type "BaseException") = some true)
    (u2 : PySem.W.hasDictIn K CM = true)
    (u3 : PySem.W.typeIn K (.ref CM) = some (.type "type"))
    (u4 : PySem.W.subIn K (.ref C) (.ref CM) = some (!tape))
    (low : Txt.lower z = word)
    (sz : z.length ≤ 1000) : ErrF K x z word C CT CM fI tape := ⟨g, gT, gM, ⟨nm, q, N, bs, bm, sn, sub, ab, col, dd, k0, k1, k2, k3, k5, cls1, cls2⟩, ⟨o, tk, nm1, nm2⟩, sa, exC, tyC, kC, ga, gg, hd, ca, cg, ct, mo, rd, fc, nc, iC, tI, t1, t2, t3, t4, u1, u2, u3, u4, low, sz⟩
section
variable {P : Program} {w : World} {K : PySem.W.Frag} {mg : Str → Option Value} {base h : Heap} {x z word : Str} {C CT CM fI : Addr} {tape : Bool} {k : Nat} {fd : FuncData}
theorem ErrF.xf (F : ErrF K x z word C CT CM fI tape) : XfC K C := ⟨F.ga, F.gg, F.exC, F.hd⟩
theorem ErrF.err (F : ErrF K x z word C CT CM fI tape) (X : K.In h) (G : h.Ns mainGlobals mg) : Err K mg x C z word where
  g := PySem.W.mg_of X G F.g
  oex := ⟨F.cls, F.sa, F.exC, F.tyC, F.kC⟩
  cls := ⟨F.ga, F.gg, F.exC, F.hd, F.ca, F.cg, F.ct, F.mo⟩
  nmd := ⟨F.rd, F.fc, F.tyC, F.nm⟩
  nc := F.nc
  low := F.low
  sz := F.sz
theorem err_mk (F : ErrF K x z word C CT CM fI tape) (X : K.In h) (G : h.Ns mainGlobals mg) (ok : FnOk P w K mg base CX0 k fI fd ["self", "why"] (spInit K)) (b : Binds K fd ["self", "why"] []) : ErrK P w K mg base k x word tape :=
  ⟨C, CT, CM, fI, z, fd, F.err X G, F.iC, F.tI, ok, b, F.xf, PySem.W.mg_of X G F.gT, PySem.W.mg_of X G F.gM, PySem.W.exm_ref F.t1 F.t2 F.t3 F.t4, fun e => PySem.W.exm_ref F.u1 F.u2 F.u3 (by rw [F.u4, e]; rfl)⟩
end
/-- the end of a law whose def (and whose defs named in xs) hold lambdas -/
theorem walkT {l : PySem.W.OpenLaw} {n k : Nat} {q : Program} {loose : List Str} {XP : (Str → Option Value) → Heap → Prop} {YP : World → Heap → Prop} {d : DefRec} {K : Params → PySem.W.Frag} {CX : World → CXT} {x : Str}
    (hn : l.most = some n) (hn2 : n ≤ sizeLine) (hdf : d.params.defaults = []) (hr : Room k callerA) (hY : ∀ (w : World) (h : Heap), YP w h → (K w.params).In h)
    (F : ∀ (w : World) (mg : Str → Option Value) (fa : Addr) (h : Heap), (K w.params).In h → h.Ns mainGlobals mg → mg d.name = some (.ref fa) →
      (∀ (y : Str) (e : DefRec) (c t : Addr), (recsOf q).find? (fun r => r.name == y) = some e → PySem.W.tabIn (K w.params) y = some (c, t) → PySem.W.CodeHd h c t ∧ h.get? t = some { cls := .none, data := .fields #[] }) → LawAtS l w (K w.params) (CX w) k n x mg fa h)
    (hCX : ∀ (w : World) (H : Hp) (s : Shared) (e : Value) (s' : Shared), CX w [] H s (fun _ _ _ => False) e s' → False) :
    PySem.W.WalkO q loose XP YP l.row.toRowW d [] (fun f vs => PySem.call f vs) := by
  refine Att.attach_callB hn hdf fun w s₀ s₁ mg mb fa o pm cd doc a vs ns G Y ho hd hcd hmg hobj hints hlen hbits hg => ?_
  have KX := hY w _ Y
  obtain ⟨fd, cs, sp, hT, nT, C, hb, hsp, hF⟩ := F w mg fa _ KX G.T.g hmg fun y e c t h1 h2 => PySem.W.tab_of G.T KX h1 h2
  exact law_callTs KX G.T.g G.T.b G.T.builtins G.T.nolimit hg hT nT C G.T.bmain hobj hints (Nat.le_trans hlen hn2) hr hF hb (fun H hH hS => hsp H a ns hlen hbits hH hS) fun H e s' => hCX w H s₁ e s'
end Rt

namespace Rt
open PySem PySem.Spec PyProof.Rows L2 LamX
/-! ### a function read off a class of the program and called: C.m(self, ..) -/
/-- m of the class that x names is the function at f -/
structure Off (K : PySem.W.Frag) (mg : Str → Option Value) (x m : Str) (f : Addr) : Prop where
  ex : ∃ C : Addr, mg x = some (.ref C) ∧ PySem.W.specialIn K (.ref C) "__getattribute__" = some (some (.builtin "type.__getattribute__")) ∧ PySem.W.readsIn K C (.type "type") = true ∧ PySem.W.findCls K (.ref C) (.type "type") m = some (.val (.ref f))
section
variable {X : Cx} {x m : Str} {f : Addr} {fd : FuncData} {ps : List Str} {p1 p2 pos : Pos} {e : Expr} {es : List Expr} {t : TA} {k : Nat} {sp : Sp} {pl : Sem Bool}
theorem pe_off (O : Off X.K X.mg x m f) (F : FnOk X.prog X.w X.K X.mg X.base CX0 k f fd ps sp) (hr : Room k X.A) (hg : Gl X x) (hk : PySem.W.keepIn X.K (.ref f) = true) (hb : Binds X.K fd ps []) (ha : PA X (e :: es) t)
    (hc : eval (.Call (.Attribute (.Name x p1) m p2) (e :: es) [] pos) X.env = (do
      let ov ← eval (.Name x p1) X.env
      standAt p2.atName
      let (f, first) ← holding [ov] (getMethod ov m pl)
      callWith pos f first (backTo pos (starEach (e :: es) X.env)) (backToKw pos (keywordEach [] X.env))) := by rfl)
    (hdb : (x == ("__debug__" : Str)) = false := by decide) (he : starEach (e :: es) X.env = (false, eval e X.env) :: starEach es X.env := by rfl) (hpl : (backTo pos (starEach es X.env)).any (·.1) = false := by rfl) :
    PE X (.Call (.Attribute (.Name x p1) m p2) (e :: es) [] pos) (tCall sp [] E0 t) := by
  obtain ⟨C, hm, sG, rd, fc⟩ := O.ex
  refine ⟨fun pins s σ H Q I h => ?_⟩
  refine PySem.W.methodCall_KW (ld_glob I hg hm ?_ hdb) hc
  refine PySem.W.method_cls I.kIn sG (PySem.W.cls_value I.kIn rd fc rfl ?_)
  refine PySem.W.callWith_K (h₀ := X.base) I.ok.mod.kin hk (thn (ha.run pos pins _ σ H _ (I.tok _) h) fun us s1 ⟨vs, H1, I1, r, q⟩ => ⟨I1.kIn, ?_⟩) he hpl
  exact run_fn F hr hb .nil pass0 I1 r q
end
/-! ### BadBytes: an error with its place -/
/-- BadBytes.__init__ -/
def spInitAt (K : PySem.W.Frag) : Sp := fun vs H Q _ => ∃ (a C : Addr) (n : Int) (z : Str), vs = [.ref a, .int n] ∧ n.natAbs < 10 ^ 20 ∧ OexC K C ∧ ClsE K C ∧ Nmd K C z ∧ PySem.W.findIn K (.ref C) "called" = some none ∧ PySem.W.findIn K (.ref C) "at" = some none ∧ z.length ≤ 1000 ∧ H a = some (exo a C none) ∧
  ∀ dx, H dx = none → dx ≠ a → Q .non (upd (upd (upd H dx (exd dx [("called", .str (Txt.lower z))])) a (exo a C (some dx))) dx (exd dx [("at", .int n), ("called", .str (Txt.lower z))]))
/-- BadBytes in flight, its place n -/
structure RaisedA (K : PySem.W.Frag) (mg : Str → Option Value) (x word : Str) (n : Int) (H : Hp) (cls : Value) (d : Option Addr) (H' : Hp) : Prop where
  ex : ∃ (C dd : Addr), mg x = some (.ref C) ∧ cls = .ref C ∧ d = some dd ∧ H dd = none ∧ H' = upd H dd (.xd [("at", .int n), ("called", .str word)]) ∧ XfC K C ∧ PySem.W.findIn K (.ref C) "called" = some none ∧ PySem.W.findIn K (.ref C) "at" = some none
structure ErrA (P : Program) (w : World) (K : PySem.W.Frag) (mg : Str → Option Value) (base : Heap) (k : Nat) (x word : Str) : Prop where
  ex : ∃ (C fI : Addr) (z : Str) (fd : FuncData), Err K mg x C z word ∧ PySem.W.findIn K (.ref C) "__init__" = some (some (.ref fI)) ∧ PySem.W.typeIn K (.ref fI) = some (.type "function") ∧
    FnOk P w K mg base CX0 k fI fd ["self", "at"] (spInitAt K) ∧ Binds K fd ["self", "at"] [] ∧ XfC K C ∧ PySem.W.findIn K (.ref C) "at" = some none
def tRaiseA (K : PySem.W.Frag) (mg : Str → Option Value) (x word : Str) (W : WX) (ta : TA) : TS := fun _ σ H => ta σ H fun vs H1 => ∃ n : Int, vs = [.int n] ∧ n.natAbs < 10 ^ 20 ∧ ∀ cls d H', RaisedA K mg x word n H1 cls d H' → W cls d σ H'
section
variable {X : Cx} {x word : Str} {k : Nat} {e : Expr} {es : List Expr} {ta : TA} {W : WX} {p pos pos2 : Pos}
theorem ps_raiseA (hc : X.calm = true) (T : ErrA X.prog X.w X.K X.mg X.base k x word) (hr : Room (k + 1) X.A) (tk : Takes X W) (hg : Gl X x) (ha : PA X (e :: es) ta) (hdb : (x == ("__debug__" : Str)) = false := by decide)
    (he : starEach (e :: es) X.env = (false, eval e X.env) :: starEach es X.env := by rfl) (hpl : (backTo pos (starEach es X.env)).any (·.1) = false := by rfl) :
    PS X (.Raise (some (.Call (.Name x p) (e :: es) [] pos)) none pos2) (tRaiseA X.K X.mg x word W ta) := by
  obtain ⟨C, fI, z, fd, R, iC, tI, F1, hb, xf, na⟩ := T.ex
  have mk := pmk_oex (X := X) (CX := CX0) (p := p) (pos := pos) R.oex iC tI F1 hr hb .nil pass0 hg R.g (pa_up ha) hdb he hpl
  have rs := ps_raise (pos := pos2) hc tk mk
  refine ⟨fun pins s σ H D I h => rs.run pins s σ H D I ?_⟩
  have imp : ∀ (vs : List V) (H1 : Hp), (∃ n : Int, vs = [.int n] ∧ n.natAbs < 10 ^ 20 ∧ ∀ cls d H', RaisedA X.K X.mg x word n H1 cls d H' → W cls d σ H') →
      vs.length ≤ 1000 ∧ ∀ a, H1 a = none → spInitAt X.K (.ref a :: (vs ++ [])) (upd H1 a (exo a C none))
        (fun v H2 => v = .non ∧ ∃ (d : Addr) (fs : List (Str × V)), H2 a = some (exo a C (some d)) ∧ H2 d = some (exd d fs) ∧ H1 d = none ∧ W (.ref C) (some d) σ (upd (del H2 a) d (.xd fs))) (fun _ _ _ => False) := by
    rintro vs H1 ⟨n, rfl, hn, q⟩
    refine ⟨(by show 1 ≤ 1000; decide), fun a ha => ⟨a, C, n, z, rfl, hn, R.oex, R.cls, R.nmd, R.nc, na, R.sz, upd_same, fun dx hdx nda => ⟨rfl, dx, [("at", .int n), ("called", .str (Txt.lower z))], ?_, upd_same, ?_, ?_⟩⟩⟩
    · rw [upd_ne nda.symm, upd_same]
    · rw [upd_ne nda] at hdx
      exact hdx
    · rw [upd_ne nda] at hdx
      refine q _ _ _ ⟨C, dx, R.g, rfl, rfl, hdx, ?_, xf, R.nc, na⟩
      funext b
      by_cases e1 : b = dx
      · rw [e1, upd_same, upd_same, R.low]
      · rw [upd_ne e1, upd_ne e1]
        by_cases e2 : b = a
        · rw [e2, del_same, ha]
        · rw [del_ne e2, upd_ne e1, upd_ne e2, upd_ne e1, upd_ne e2]
  exact ⟨_, h, imp⟩
end
/-- a def that may let an error out, called with fewer values than it has parameters -/
structure DefXd (P : Program) (w : World) (K : PySem.W.Frag) (mg : Str → Option Value) (base : Heap) (x : Str) (k : Nat) (sp : Sp) (dvs : List V) : Prop where
  ex : ∃ (f : Addr) (fd : FuncData) (ps : List Str) (ds : List Value), mg x = some (.ref f) ∧ FnOk P w K mg base (L2.CX P w) k f fd ps sp ∧ PySem.W.keepIn K (.ref f) = true ∧ Binds K fd ps ds ∧ Vals dvs ds
section
variable {X : Cx} {x : Str} {p pos : Pos} {e : Expr} {es : List Expr} {t : TA} {k : Nat} {sp : Sp} {W : WX} {dvs : List V}
theorem pe_dxd (D : DefXd X.prog X.w X.K X.mg X.base x k sp dvs) (hr : Room k X.A) (hg : Gl X x) (tk : Takes X W) (ha : PA X (e :: es) t) (hdb : (x == ("__debug__" : Str)) = false := by decide)
    (he : starEach (e :: es) X.env = (false, eval e X.env) :: starEach es X.env := by rfl) (hpl : (backTo pos (starEach es X.env)).any (·.1) = false := by rfl) :
    PE X (.Call (.Name x p) (e :: es) [] pos) (tCallSD sp dvs (WE W) t) := by
  obtain ⟨f, fd, ps, ds, h1, h2, h3, h4, h5⟩ := D.ex
  exact pe_callSD h2 hr hg h1 h3 h4 h5 (fun σ => passAt tk σ) ha hdb he hpl
end
/-- a reading with room -/
def tUpE (te : TE) : TE := fun σ H Q => ∃ R : V → Hp → Prop, te σ H R ∧ ∀ v H1, R v H1 → Q v H1
theorem pe_up {X : Cx} {e : Expr} {te : TE} (h : PE X e te) : PE X e (tUpE te) := ⟨fun pins s σ H Q I ⟨R, h', imp⟩ => thn (h.run pins s σ H R I h') fun u s1 ⟨v, H1, I1, r, q⟩ => ⟨v, H1, I1, r, imp v H1 q⟩⟩
/-! ### lists of numbers as data -/
theorem dp_nums {K : PySem.W.Frag} {H : Hp} : ∀ l : List Nat, DpAll K H (nums l) (l.map fun (n : Nat) => PyData.int (n : Int))
  | [] => .nil
  | n :: l => .cons (.int _) (dp_nums l)
theorem depth_ints : ∀ l : List Nat, PyData.depthAll (l.map fun (n : Nat) => PyData.int (n : Int)) = 0
  | [] => rfl
  | n :: l => by
    show max 0 (PyData.depthAll (l.map fun (n : Nat) => PyData.int (n : Int))) = 0
    rw [depth_ints l]
    rfl
theorem sm_ints : ∀ l : List Nat, smAll (l.map fun (n : Nat) => PyData.int (n : Int))
  | [] => True.intro
  | n :: l => ⟨True.intro, sm_ints l⟩
def numsD (l : List Nat) : PyData := .list (l.map fun (n : Nat) => PyData.int (n : Int))
theorem numsD_shaped (l : List Nat) : SeqAt.shaped (numsD l) = true := by
  have h := PySem.W.ke_shaped_ints (l.map fun (n : Nat) => (n : Int))
  rw [List.map_map] at h
  exact h
theorem numsD_eq (l : List Nat) : PyData.eqv (numsD l) (numsD l) = true := SeqAt.eqv_refl _ (SeqAt.canLay_of_shaped (numsD_shaped l))
/-- what is settled, without the tables -/
def clean (H0 : Hp) : Hp := fun b => match H0 b with
  | some (.tbl _) => none
  | o => o
theorem clean_at {H0 : Hp} {p : Addr} {o : HO} (h : H0 p = some o) (n : ∀ ps, o ≠ .tbl ps) : clean H0 p = some o := by
  unfold clean
  rw [h]
  split
  · rename_i ps e
    exact absurd (Option.some.inj e) (n ps)
  · rfl
theorem clean_le {H0 : Hp} {p : Addr} {o : HO} (h : clean H0 p = some o) : H0 p = some o := by
  unfold clean at h
  split at h
  · cases h
  · exact h
theorem clean_no (H0 : Hp) : NoTab (clean H0) := fun b ps z => by
  have h := clean_le z
  unfold clean at z
  rw [h] at z
  cases z
theorem clean_ex {H0 H : Hp} (e : Ex H0 H) : Ex (clean H0) H := fun b o h => e b o (clean_le h)
theorem clean_dr {H0 H : Hp} {d : Addr} (x : Dr H0 H d) : Dr (clean H0) H d := by
  obtain ⟨⟨a, ns, i, j, k, l, h1, h2, h3⟩, n⟩ := x
  refine ⟨⟨a, ns, i, j, k, l, h1, clean_at h2 (fun ps z => nomatch z), h3⟩, ?_⟩
  cases e : clean H0 d with
  | none => rfl
  | some o =>
    have := clean_le e
    rw [n] at this
    cases this
/-- all that is read off an error's class, whatever else it is under -/
structure ErrG (K : PySem.W.Frag) (x z word : Str) (C fI : Addr) : Prop where
  g : PySem.W.nsIn K mainGlobals x = some (some (.ref C))
  cls : ∃ nm q N bs bm sn sub ab col dd k0 k1 k2 k3 k5, K.lookup C = some (excClassObj nm q C N bs bm true sn sub ab col dd k0 k1 k2 k3 k5 "ValueError.__new__") ∧ PySem.HandSPX.refsVE bm = true
  nm : ∃ o tk, K.lookup C = some o ∧ (o.slots[2]?).join = some (.str z tk)
  sa : PySem.W.findIn K (.ref C) "__setattr__" = some (some (.builtin "object.__setattr__"))
  exC : PySem.W.subIn K (.ref C) (.type "BaseException") = some true
  tyC : PySem.W.typeIn K (.ref C) = some (.type "type")
  kC : PySem.W.keepIn K (.ref C) = true
  ga : PySem.W.findIn K (.ref C) "__getattribute__" = some (some (.builtin "BaseException.__getattribute__"))
  gg : PySem.W.findIn K (.ref C) "__getattr__" = some none
  hd : PySem.W.hasDictIn K C = true
  ca : PySem.W.findIn K (.ref C) "__class__" = some (some (.builtin "object.__class__"))
  cg : PySem.W.specialIn K (.builtin "object.__class__") "__get__" = some (some (.builtin "getset_descriptor.__get__"))
  ct : PySem.W.takesIn K (.builtin "object.__class__") = some true
  mo : PySem.W.mroIn K C (.type "object") = some true
  rd : PySem.W.readsIn K C (.type "type") = true
  fc : PySem.W.findCls K (.ref C) (.type "type") "__name__" = some (.get (.builtin "getset_descriptor.__get__") (.builtin "type.__name__") (.ref C) (.type "type"))
  nc : PySem.W.findIn K (.ref C) "called" = some none
  iC : PySem.W.findIn K (.ref C) "__init__" = some (some (.ref fI))
  tI : PySem.W.typeIn K (.ref fI) = some (.type "function")
  se : PySem.W.subIn K (.ref C) (.ref C) = some true
  low : Txt.lower z = word
  sz : z.length ≤ 1000
theorem errG_of {K : PySem.W.Frag} {x z word : Str} {C fI : Addr} {nm q : Str} {N : Addr} {bs bm : List Value} {sn : List Str} {sub : List Value} {ab : Bool} {col : Option Bool} {dd : Option Addr} {k0 k1 k2 k3 k5 : Option Value} {o : Obj} {tk : Tok}
    (g : PySem.W.nsIn K mainGlobals x = some (some (.ref C)))
    (cls1 : K.lookup C = some (excClassObj nm q C N bs bm true sn sub ab col dd k0 k1 k2 k3 k5 "ValueError.__new__")) (cls2 : PySem.HandSPX.refsVE bm = true)
    (nm1 : K.lookup C = some o) (nm2 : (o.slots[2]?).join = some (.str z tk))
    (sa : PySem.W.findIn K (.ref C) "__setattr__" = some (some (.builtin "object.__setattr__")))
    (exC : PySem.W.subIn K (.ref C) (.type "BaseException") = some true)
    (tyC : PySem.W.typeIn K (.ref C) = some (.type "type"))
    (kC : PySem.W.keepIn K (.ref C) = true)
    (ga : PySem.W.findIn K (.ref C) "__getattribute__" = some (some (.builtin "BaseException.__getattribute__")))
    (gg : PySem.W.findIn K (.ref C) "__getattr__" = some none)
    (hd : PySem.W.hasDictIn K C = true)
    (ca : PySem.W.findIn K (.ref C) "__class__" = some (some (.builtin "object.__class__")))
    (cg : PySem.W.specialIn K (.builtin "object.__class__") "__get__" = some (some (.builtin "getset_descriptor.__get__")))
    (ct : PySem.W.takesIn K (.builtin "object.__class__") = some true)
    (mo : PySem.W.mroIn K C (.type "object") = some true)
    (rd : PySem.W.readsIn K C (.type "type") = true)
    (fc : PySem.W.findCls K (.ref C) (.type "type") "__name__" = some (.get (.builtin "getset_descriptor.__get__") (.builtin "type.__name__") (.ref C) (.type "type")))
    (nc : PySem.W.findIn K (.ref C) "called" = some none)
    (iC : PySem.W.findIn K (.ref C) "__init__" = some (some (.ref fI)))
    (tI : PySem.W.typeIn K (.ref fI) = some (.type "function"))
    (se : PySem.W.subIn K (.ref C) (.ref C) = some true)
    (low : Txt.lower z = word)
    (sz : z.length ≤ 1000) : ErrG K x z word C fI := ⟨g, ⟨nm, q, N, bs, bm, sn, sub, ab, col, dd, k0, k1, k2, k3, k5, cls1, cls2⟩, ⟨o, tk, nm1, nm2⟩, sa, exC, tyC, kC, ga, gg, hd, ca, cg, ct, mo, rd, fc, nc, iC, tI, se, low, sz⟩
section
variable {P : Program} {w : World} {K : PySem.W.Frag} {mg : Str → Option Value} {base h : Heap} {x z word : Str} {C fI CT : Addr} {k : Nat} {fd : FuncData}
theorem ErrG.xf (F : ErrG K x z word C fI) : XfC K C := ⟨F.ga, F.gg, F.exC, F.hd⟩
theorem ErrG.err (F : ErrG K x z word C fI) (X : K.In h) (G : h.Ns mainGlobals mg) : Err K mg x C z word where
  g := PySem.W.mg_of X G F.g
  oex := ⟨F.cls, F.sa, F.exC, F.tyC, F.kC⟩
  cls := ⟨F.ga, F.gg, F.exC, F.hd, F.ca, F.cg, F.ct, F.mo⟩
  nmd := ⟨F.rd, F.fc, F.tyC, F.nm⟩
  nc := F.nc
  low := F.low
  sz := F.sz
theorem ErrG.self (F : ErrG K x z word C fI) : PySem.W.exmOne K (.ref C) (.ref C) = some true := PySem.W.exm_ref F.exC F.hd F.tyC F.se
theorem errA_mk (F : ErrG K x z word C fI) (na : PySem.W.findIn K (.ref C) "at" = some none) (X : K.In h) (G : h.Ns mainGlobals mg) (ok : FnOk P w K mg base CX0 k fI fd ["self", "at"] (spInitAt K)) (b : Binds K fd ["self", "at"] []) : ErrA P w K mg base k x word :=
  ⟨C, fI, z, fd, F.err X G, F.iC, F.tI, ok, b, F.xf, na⟩
end
end Rt

namespace Rt
open PySem PySem.Spec PyProof.Rows L2 RZ TL
/-! ### a text, several times -/
theorem fold_rep (a : Array Nat) : ∀ (n : Nat) (acc : Array Nat), ((List.replicate n a).foldl (· ++ ·) acc).size = acc.size + a.size * n ∧ ∀ c ∈ ((List.replicate n a).foldl (· ++ ·) acc).toList, c ∈ acc.toList ∨ c ∈ a.toList
  | 0, acc => ⟨by simp, fun c h => .inl h⟩
  | n + 1, acc => by
    have ih := fold_rep a n (acc ++ a)
    rw [List.replicate_succ, List.foldl_cons]
    refine ⟨by rw [ih.1, Array.size_append, Nat.mul_succ]; omega, fun c h => ?_⟩
    rcases ih.2 c h with h | h
    · rw [Array.toList_append] at h
      exact List.mem_append.mp h
    · exact .inr h
def rRepS : R2 := fun x y H Q => ∃ (z : Str) (n : Nat), x = .str z ∧ y = .int (n : Int) ∧ z.length ≤ 1000 ∧ n ≤ 1000 ∧ ∀ w : Str, w.length = z.length * n → (∀ c ∈ w.cps.toList, c ∈ z.cps.toList) → Q (.str w) H
theorem op_repS {X : Cx} : OpR X (binaryOp .Mult) rRepS := by
  intro pins s σ H x y v u Q I rx ry h
  obtain ⟨z, n, rfl, rfl, hz, hn, q⟩ := h
  obtain ⟨t, rfl⟩ := rx
  obtain ⟨t2, rfl⟩ := ry
  have lim : z.length * n ≤ 1000 * 1000 := Nat.mul_le_mul hz hn
  refine PySem.P.mul_str ?_ (fun h1 _ => ?_) (fun h1 _ => ?_) ?_
  · rw [decide_eq_false (by omega), decide_eq_false (by omega)]
    rfl
  · have h2 : (1000 : Int) ≤ (2 ^ 63 - 1) / (n : Int) := by
      rw [Int.le_ediv_iff_mul_le (by omega)]
      omega
    omega
  · rw [show (n : Int).toNat = n by omega]
    exact decide_eq_false fun h => by
      have := mem_sz lim
      omega
  · by_cases h1 : (n : Int) < 1
    · rw [if_pos h1]
      have n0 : n = 0 := by omega
      exact ⟨(by decide), .str Str.empty, H, I.tok _, ⟨_, rfl⟩, q Str.empty (by rw [n0, Nat.mul_zero]; rfl) (fun c h => nomatch h)⟩
    · rw [if_neg h1]
      by_cases h2 : ((n : Int) == 1 || z.length == 0) = true
      · rw [if_pos h2]
        refine ⟨.str z, H, I, ⟨_, rfl⟩, q z ?_ fun c h => h⟩
        rcases Bool.or_eq_true_iff.mp h2 with h | h
        · have : n = 1 := by have := beq_iff_eq.mp h; omega
          rw [this, Nat.mul_one]
        · have h := beq_iff_eq.mp h
          rw [h, Nat.zero_mul]
      · rw [if_neg h2]
        have f := fold_rep z.cps n #[]
        refine ⟨?_, .str _, H, I.tok _, ⟨_, rfl⟩, q _ ?_ fun c h => ?_⟩
        · show Array.size _ ≤ sizeLine
          rw [show (n : Int).toNat = n by omega, f.1]
          refine mem_sz (Nat.le_trans ?_ lim)
          show 0 + z.cps.size * n ≤ z.cps.size * n
          omega
        · show Array.size _ = _
          rw [show (n : Int).toNat = n by omega, f.1]
          show 0 + z.cps.size * n = z.cps.size * n
          omega
        · rw [show (n : Int).toNat = n by omega] at h
          exact (f.2 c h).elim (fun h => nomatch h) fun h => h
theorem at_n {α : Type} {xs : List α} {z : Int} {j : Nat} {v : α} (e : z = (j : Int)) (h : xs[j]? = some v) : atI xs z = some v := by
  subst e
  have hl := (List.getElem?_eq_some_iff.mp h).1
  unfold atI ixN
  rw [if_pos (by omega), if_pos (by omega)]
  show xs[(j : Int).toNat]? = some v
  rw [Int.toNat_natCast, h]
theorem joinL_mem : ∀ (parts : List (List Nat)) (c : Nat), c ∈ joinL [] parts → ∃ p ∈ parts, c ∈ p
  | [], c, h => nomatch h
  | [p], c, h => ⟨p, .head _, h⟩
  | p :: q :: r, c, h => by
    have h' : c ∈ p ++ ([] ++ joinL [] (q :: r)) := h
    rcases List.mem_append.mp h' with h1 | h1
    · exact ⟨p, .head _, h1⟩
    · obtain ⟨x, hx, hc⟩ := joinL_mem (q :: r) c h1
      exact ⟨x, .tail _ hx, hc⟩
theorem joinL_len : ∀ (parts : List (List Nat)), (∀ p ∈ parts, p.length = 1) → (joinL [] parts).length = parts.length
  | [], _ => rfl
  | [p], h => h p (.head _)
  | p :: q :: r, h => by
    show (p ++ ([] ++ joinL [] (q :: r))).length = (q :: r).length + 1
    rw [List.length_append, List.nil_append, joinL_len (q :: r) fun x hx => h x (.tail _ hx), h p (.head _)]
    omega
/-- signs joined -/
theorem join_signs (ys : List Str) (cs : List Nat) (h : ∀ y ∈ ys, ∃ c ∈ cs, y = ⟨#[c]⟩) : (Txt.join "" ys).length = ys.length ∧ ∀ c ∈ (Txt.join "" ys).cps.toList, c ∈ cs := by
  have e : tl (Txt.join "" ys) = joinL [] (ys.map tl) := by
    rw [join_eq, tl_join]
    rfl
  refine ⟨?_, fun c hc => ?_⟩
  · rw [len_tl, e, joinL_len, List.length_map]
    intro p hp
    obtain ⟨y, hy, rfl⟩ := List.mem_map.mp hp
    obtain ⟨c, _, rfl⟩ := h y hy
    rfl
  · have hc' : c ∈ tl (Txt.join "" ys) := hc
    rw [e] at hc'
    obtain ⟨p, hp, hcp⟩ := joinL_mem _ c hc'
    obtain ⟨y, hy, rfl⟩ := List.mem_map.mp hp
    obtain ⟨c', hc2, rfl⟩ := h y hy
    have : c = c' := List.mem_singleton.mp hcp
    rw [this]
    exact hc2
theorem sum_signs (ys : List Str) (cs : List Nat) (h : ∀ y ∈ ys, ∃ c ∈ cs, y = ⟨#[c]⟩) : (ys.map (·.length)).sum = ys.length := by
  induction ys with
  | nil => rfl
  | cons y r ih =>
    rw [List.map_cons, List.sum_cons, ih fun z hz => h z (.tail _ hz), List.length_cons]
    obtain ⟨c, _, rfl⟩ := h y (.head _)
    show 1 + r.length = r.length + 1
    omega
/-- a number drawn between its bounds -/
def spInts (lo hi : Int) : Sp := fun vs H Q _ => ∃ (d : Addr) (H0 : Hp), vs = [.ref d] ∧ Ex H0 H ∧ Dr H0 H d ∧
  ∀ (r : Int) (G0 H' : Hp), lo ≤ r → r ≤ hi → Go (· = d) H0 H G0 H' → Dr G0 H' d → Q (.int r) H'
theorem get_int (xs : List V) (lo hi : Int) (h : ∀ v ∈ xs, ∃ z, v = V.int z ∧ lo ≤ z ∧ z ≤ hi) (r : Int) (r0 : 0 ≤ r) (r1 : r < (xs.length : Int)) : ∃ z, xs[r.toNat]? = some (V.int z) ∧ lo ≤ z ∧ z ≤ hi := by
  have hl : r.toNat < xs.length := by omega
  obtain ⟨z, e, h1⟩ := h _ (List.getElem_mem hl)
  exact ⟨z, by rw [List.getElem?_eq_getElem hl, e], h1⟩
theorem win {z lo hi : Int} (h : lo ≤ z ∧ z ≤ hi) : withinV (.int z) lo hi = true := by
  show (decide (lo ≤ z) && decide (z ≤ hi)) = true
  rw [decide_eq_true h.1, decide_eq_true h.2]
  rfl
end Rt

namespace Rt
open PySem PySem.Spec PyProof.Rows L2 RZ TL
/-! ### tracks: lists of tuples of numbers and texts -/
def tickOf (xs : List V) : Int := match xs with
  | .int t :: _ => t
  | _ => 0
def scD (v : V) : PyData := match v with
  | .int z => .int z
  | .str s => .str s
  | _ => .none
def evD (xs : List V) : PyData := .tuple (xs.map scD)
def trackD (evs : List (List V)) : PyData := .list (evs.map evD)
/-- the events stand at the addresses -/
def Evs (G : Hp) (ps : List Addr) (evs : List (List V)) : Prop := ps.length = evs.length ∧ ∀ (i : Nat) (p : Addr) (xs : List V), ps[i]? = some p → evs[i]? = some xs → G p = some (.tup xs)
/-- a number, or a text that can stand anywhere -/
def Scal2 (v : V) : Prop := (∃ z, v = .int z) ∨ ∃ s : Str, v = .str s ∧ s.length ≤ 1000 ∧ PyData.strOk s = true
theorem Scal2.s {v : V} (h : Scal2 v) : Scal v := h.elim .inl fun ⟨s, e, l, _⟩ => .inr ⟨s, e, l⟩
def Okx (xs : List V) : Prop := (∀ x ∈ xs, Scal2 x) ∧ xs.length ≤ 100
theorem Okx.s {xs : List V} (h : Okx xs) : ∀ x ∈ xs, Scal x := fun x hx => (h.1 x hx).s
theorem Evs.nil (G : Hp) : Evs G [] [] := ⟨rfl, fun i p xs h => by simp at h⟩
theorem Evs.up {G G' : Hp} {ps : List Addr} {evs : List (List V)} (h : Evs G ps evs) (x : Ex G G') : Evs G' ps evs := ⟨h.1, fun i p xs h1 h2 => x _ _ (h.2 i p xs h1 h2)⟩
theorem Evs.snoc {G : Hp} {ps : List Addr} {evs : List (List V)} {p : Addr} {xs : List V} (h : Evs G ps evs) (hp : G p = some (.tup xs)) : Evs G (ps ++ [p]) (evs ++ [xs]) := by
  refine ⟨by rw [List.length_append, List.length_append, h.1]; rfl, fun i q ys h1 h2 => ?_⟩
  by_cases hi : i < ps.length
  · rw [List.getElem?_append_left hi] at h1
    rw [List.getElem?_append_left (by rw [← h.1]; exact hi)] at h2
    exact h.2 i q ys h1 h2
  · rw [List.getElem?_append_right (by omega)] at h1
    rw [List.getElem?_append_right (by rw [← h.1]; omega), ← h.1] at h2
    generalize i - ps.length = j at h1 h2
    match j, h1, h2 with
    | 0, h1, h2 =>
      cases h1
      cases h2
      exact hp
    | k + 1, h1, h2 => simp at h1
theorem Evs.set {G : Hp} {ps : List Addr} {evs : List (List V)} {p : Addr} {xs : List V} (h : Evs G ps evs) (j : Nat) (hp : G p = some (.tup xs)) : Evs G (ps.set j p) (evs.set j xs) := by
  refine ⟨by rw [List.length_set, List.length_set, h.1], fun i q ys h1 h2 => ?_⟩
  rw [List.getElem?_set] at h1 h2
  by_cases e : j = i
  · rw [if_pos e] at h1 h2
    by_cases l : j < ps.length
    · rw [if_pos l] at h1
      rw [if_pos (by rw [← h.1]; exact l)] at h2
      cases h1
      cases h2
      exact hp
    · rw [if_neg l] at h1
      cases h1
  · rw [if_neg e] at h1 h2
    exact h.2 i q ys h1 h2
theorem Evs.at_ {G : Hp} {ps : List Addr} {evs : List (List V)} (h : Evs G ps evs) {i : Nat} (hi : i < evs.length) : ∃ p xs, ps[i]? = some p ∧ evs[i]? = some xs ∧ G p = some (.tup xs) := by
  have hl : i < ps.length := by rw [h.1]; exact hi
  exact ⟨ps[i], evs[i], List.getElem?_eq_getElem hl, List.getElem?_eq_getElem hi, h.2 i _ _ (List.getElem?_eq_getElem hl) (List.getElem?_eq_getElem hi)⟩
section
variable {K : PySem.W.Frag} {G : Hp}
theorem dp_sc {v : V} (h : Scal v) : Dp K G v (scD v) := by
  rcases h with ⟨z, rfl⟩ | ⟨s, rfl, _⟩
  · exact .int z
  · exact .str s
theorem dp_scs : ∀ xs : List V, (∀ x ∈ xs, Scal x) → DpAll K G xs (xs.map scD)
  | [], _ => .nil
  | x :: r, h => .cons (dp_sc (h x (.head _))) (dp_scs r fun y hy => h y (.tail _ hy))
theorem dp_ev {p : Addr} {xs : List V} (hp : G p = some (.tup xs)) (h : ∀ x ∈ xs, Scal x) : Dp K G (.ref p) (evD xs) := .tup (SqT.of hp) (dp_scs xs h)
theorem dp_evs : ∀ (ps : List Addr) (evs : List (List V)), Evs G ps evs → (∀ xs ∈ evs, Okx xs) → DpAll K G (ps.map V.ref) (evs.map evD)
  | [], [], _, _ => .nil
  | p :: ps, xs :: evs, h, ok => .cons (dp_ev (h.2 0 p xs rfl rfl) (ok xs (.head _)).s) (dp_evs ps evs ⟨by have := h.1; simpa using this, fun i q ys h1 h2 => h.2 (i + 1) q ys h1 h2⟩ fun ys hy => ok ys (.tail _ hy))
  | [], xs :: evs, h, _ => by have := h.1; simp at this
  | p :: ps, [], h, _ => by have := h.1; simp at this
theorem dp_track {a : Addr} {ps : List Addr} {evs : List (List V)} (ha : G a = some (.lst (ps.map V.ref))) (h : Evs G ps evs) (ok : ∀ xs ∈ evs, Okx xs) : Dp K G (.ref a) (trackD evs) := .lst (SqL.of ha) (dp_evs ps evs h ok)
end
theorem sc_depth (v : V) : (scD v).depth = 0 := by
  cases v <;> rfl
theorem scs_depth : ∀ xs : List V, PyData.depthAll (xs.map scD) = 0
  | [] => rfl
  | x :: r => by
    show max (scD x).depth (PyData.depthAll (r.map scD)) = 0
    rw [sc_depth, scs_depth r]
    rfl
theorem ev_depth (xs : List V) : (evD xs).depth = 1 := by
  show PyData.depthAll (xs.map scD) + 1 = 1
  rw [scs_depth]
theorem evs_depth : ∀ evs : List (List V), PyData.depthAll (evs.map evD) ≤ 1
  | [] => Nat.zero_le _
  | x :: r => by
    show max (evD x).depth (PyData.depthAll (r.map evD)) ≤ 1
    rw [ev_depth]
    have := evs_depth r
    omega
theorem track_depth (evs : List (List V)) : (trackD evs).depth ≤ 2 := by
  show PyData.depthAll (evs.map evD) + 1 ≤ 2
  have := evs_depth evs
  omega
theorem sc_lay {v : V} (h : Scal2 v) : (scD v).canLay0 = true := by
  rcases h with ⟨z, rfl⟩ | ⟨s, rfl, _, h⟩
  · rfl
  · exact h
theorem scs_lay : ∀ xs : List V, (∀ x ∈ xs, Scal2 x) → PyData.canLayAll0 (xs.map scD) = true
  | [], _ => rfl
  | x :: r, h => by
    show ((scD x).canLay0 && PyData.canLayAll0 (r.map scD)) = true
    rw [sc_lay (h x (.head _)), scs_lay r fun y hy => h y (.tail _ hy)]
    rfl
theorem evs_lay : ∀ evs : List (List V), (∀ xs ∈ evs, Okx xs) → PyData.canLayAll0 (evs.map evD) = true
  | [], _ => rfl
  | x :: r, h => by
    show ((evD x).canLay0 && PyData.canLayAll0 (r.map evD)) = true
    rw [evs_lay r fun y hy => h y (.tail _ hy), Bool.and_true]
    exact scs_lay x (h x (.head _)).1
theorem track_shaped {evs : List (List V)} (h : ∀ xs ∈ evs, Okx xs) : SeqAt.shaped (trackD evs) = true := by
  show ((trackD evs).canLay0 && decide ((trackD evs).depth ≤ 64)) = true
  rw [decide_eq_true (Nat.le_trans (track_depth evs) (by decide)), Bool.and_true]
  exact evs_lay evs h
theorem track_eq {evs : List (List V)} (h : ∀ xs ∈ evs, Okx xs) : PyData.eqv (trackD evs) (trackD evs) = true := SeqAt.eqv_refl _ (SeqAt.canLay_of_shaped (track_shaped h))
theorem nil_shaped : SeqAt.shaped (.list []) = true := by decide
theorem track_nil (evs : List (List V)) : PyData.eqv (trackD evs) (.list []) = decide (evs = []) := by
  cases evs with
  | nil => rfl
  | cons x r => rfl
theorem sc_sm (v : V) : smA (scD v) := by
  cases v <;> exact True.intro
theorem scs_sm : ∀ xs : List V, smAll (xs.map scD)
  | [] => True.intro
  | x :: r => ⟨sc_sm x, scs_sm r⟩
theorem ev_sm {xs : List V} (h : xs.length ≤ 100) : smA (evD xs) := ⟨by rw [List.length_map]; omega, scs_sm xs⟩
theorem evs_sm : ∀ evs : List (List V), (∀ xs ∈ evs, Okx xs) → smAll (evs.map evD)
  | [], _ => True.intro
  | x :: r, h => ⟨ev_sm (h x (.head _)).2, evs_sm r fun y hy => h y (.tail _ hy)⟩
theorem track_sm {evs : List (List V)} (h : ∀ xs ∈ evs, Okx xs) (hl : evs.length ≤ 10000) : smA (trackD evs) := ⟨by rw [List.length_map]; omega, evs_sm evs h⟩
theorem strOk_signs {s : Str} (h : ∀ c ∈ s.cps.toList, c ∈ signsS.cps.toList) : PyData.strOk s = true := by
  have e : ∀ c ∈ signsS.cps.toList, (fun c : Nat => decide (c < 0x110000)) c = true := by decide +kernel
  unfold PyData.strOk
  rw [← Array.all_toList]
  exact List.all_eq_true.mpr fun c hc => e c (h c hc)
theorem withinAll_int : ∀ (vs : List V) (bs : List (Int × Int)), withinAll vs bs = true → ∀ v ∈ vs, ∃ z, v = .int z
  | [], _, _, v, hv => nomatch hv
  | x :: vs, [], h, _, _ => nomatch h
  | x :: vs, b :: bs, h, v, hv => by
    have h' : (withinV x b.1 b.2 && withinAll vs bs) = true := h
    rw [Bool.and_eq_true] at h'
    rcases List.mem_cons.mp hv with rfl | hv
    · cases v with
      | int z => exact ⟨z, rfl⟩
      | _ => exact absurd h'.1 (by simp [withinV])
    · exact withinAll_int vs bs h'.2 v hv
/-- a good thing's texts can stand anywhere -/
theorem thing_scal {xs : List V} (h : thingOk xs = true) : ∀ x ∈ xs, Scal2 x := by
  match xs, h with
  | .str w :: r, h =>
    by_cases hw : w = "mark"
    · subst hw
      rw [thing_mark] at h
      match r, h with
      | [y], h =>
        intro x hx
        simp only [List.mem_cons, List.mem_nil_iff, or_false] at hx
        rcases hx with rfl | rfl
        · exact .inr ⟨_, rfl, by decide, by decide +kernel⟩
        · cases x with
          | str s =>
            have h' : (decide (s.length ≤ 12) && s.cps.toList.all (fun c => decide (c ∈ signsS.cps.toList))) = true := h
            rw [Bool.and_eq_true] at h'
            have h1 := of_decide_eq_true h'.1
            exact .inr ⟨s, rfl, by omega, strOk_signs fun c hc => of_decide_eq_true (List.all_eq_true.mp h'.2 c hc)⟩
          | _ => cases h
    · rw [thing_word hw] at h
      cases hb : wordB w with
      | none => rw [hb] at h; cases h
      | some bs =>
        rw [hb] at h
        have h' : withinAll r bs = true := h
        have hs : PyData.strOk w = true ∧ w.length ≤ 1000 := by
          unfold wordB at hb
          by_cases e1 : w = "on"
          · rw [e1]; exact ⟨by decide +kernel, by decide⟩
          rw [if_neg e1] at hb
          by_cases e2 : w = "off"
          · rw [e2]; exact ⟨by decide +kernel, by decide⟩
          rw [if_neg e2] at hb
          by_cases e3 : w = "knob"
          · rw [e3]; exact ⟨by decide +kernel, by decide⟩
          rw [if_neg e3] at hb
          by_cases e4 : w = "voice"
          · rw [e4]; exact ⟨by decide +kernel, by decide⟩
          rw [if_neg e4] at hb
          cases hb
        intro x hx
        rcases List.mem_cons.mp hx with rfl | hx
        · exact .inr ⟨w, rfl, hs.2, hs.1⟩
        · exact .inl (withinAll_int r bs h' x hx)
/-! ### tables by place, walked -/
/-- enumerate: a new pair at each turn -/
theorem for_enum {K : PySem.W.Frag} {a : Addr} {xs : List V} {g : TG} {tb : TS} {D : Ends} {σ : L2.St} {H : Hp} (Pv : Nat → L2.St → Hp → Prop) (h0 : Pv 0 σ H) (hq : ∀ i σ H, Pv i σ H → SqL K H a xs)
    (hs : ∀ (i : Nat) (x : V) (T : Addr) (σ : L2.St) (H : Hp), xs[i]? = some x → Pv i σ H → H T = none → g (.ref T) σ (upd H T (.tup [.int (i : Nat), x])) fun σ2 H2 => tb { D with nx := Pv (i + 1), ct := Pv (i + 1), bk := D.nx } σ2 H2) (hd : ∀ σ H, Pv xs.length σ H → D.nx σ H) :
    ∃ W : Nat → Nat → L2.St → Hp → Prop, (∃ m, W 0 m σ H) ∧ ∀ i m σ H, W i m σ H →
      ((Ite K a).stop i H ∧ D.nx σ H) ∨ ((Ite K a).go i H ∧ ∃ N : L2.St → Hp → Prop, (∀ σ' H', N σ' H' → ∃ m', m' < m ∧ W (i + 1) m' σ' H') ∧ ∀ v H', (Ite K a).yld i H v H' → g v σ H' fun σ2 H2 => tb { D with nx := N, ct := N, bk := D.nx } σ2 H2) := by
  refine ⟨fun i m σ H => m = xs.length - i ∧ i ≤ xs.length ∧ Pv i σ H, ⟨xs.length, rfl, Nat.zero_le _, h0⟩, ?_⟩
  rintro i m σ H ⟨rfl, hi, p⟩
  have qx := hq i σ H p
  by_cases hlt : i < xs.length
  · have hx : xs[i]? = some xs[i] := List.getElem?_eq_getElem hlt
    refine .inr ⟨⟨xs, _, qx, hx⟩, Pv (i + 1), fun σ' H' p' => ⟨xs.length - (i + 1), by omega, rfl, hlt, p'⟩, fun v H' yl => ?_⟩
    obtain ⟨T, x, rfl, hT, rfl, fx⟩ := yl
    exact hs i x T σ H (fx xs qx) p hT
  · have e : i = xs.length := by omega
    subst e
    exact .inl ⟨⟨xs, qx, Nat.le_refl _⟩, hd σ H p⟩
/-- t + u of two settled tuples -/
theorem cat_x {K : PySem.W.Frag} {d : Addr} {H0 B G0 H : Hp} {a b : Addr} {xs ys : List V} {Q : VK} (S : Sd d H0 B G0 H) (ha : G0 a = some (.tup xs)) (hb : G0 b = some (.tup ys)) (hz : xs.length + ys.length ≤ 1000)
    (q : ∀ (c : Addr) (G1 H1 : Hp), Sd d H0 B G1 H1 → Ex G0 G1 → Ex H H1 → (∀ x, H x ≠ none → G0 x = none → G1 x = none) → G1 c = some (.tup (xs ++ ys)) → Q (.ref c) H1) : rCatA K (.ref a) (.ref b) H Q := by
  refine ⟨a, b, xs, ys, rfl, rfl, SqT.of (S.ex _ _ ha), SqT.of (S.ex _ _ hb), mem_sz (by omega), fun e => ?_, fun _ e => ?_, fun _ _ p hp => ?_⟩
  · exact q b G0 H S (Ex.refl _) (Ex.refl _) (fun _ _ h => h) (by rw [hb, e]; rfl)
  · exact q a G0 H S (Ex.refl _) (Ex.refl _) (fun _ _ h => h) (by rw [ha, e, List.append_nil])
  · refine q p _ _ (S.put _ hp) (Ex.new (S.ex.free hp)) (Ex.new hp) (fun x h1 h2 => ?_) upd_same
    have n : x ≠ p := fun z => h1 (by rw [z]; exact hp)
    rw [upd_ne n]
    exact h2
/-- a track in the making: its list at p, not settled -/
structure TrS (d : Addr) (H0 B : Hp) (p : Addr) (ps : List Addr) (evs : List (List V)) (G H : Hp) : Prop where
  S : Sd d H0 B G H
  hp : H p = some (.lst (ps.map V.ref))
  h0 : G p = none
  hev : Evs G ps evs
  np : d ≠ p
section
variable {d : Addr} {H0 B : Hp} {p : Addr} {ps : List Addr} {evs : List (List V)} {G H : Hp}
theorem TrS.ne {x : Addr} (T : TrS d H0 B p ps evs G H) (h : H x = none) : p ≠ x := ne_of_none T.hp h
theorem TrS.put {x : Addr} (o : HO) (T : TrS d H0 B p ps evs G H) (h : H x = none) : TrS d H0 B p ps evs (upd G x o) (upd H x o) where
  S := T.S.put o h
  hp := (upd_ne (T.ne h)).trans T.hp
  h0 := (upd_ne (T.ne h)).trans T.h0
  hev := T.hev.up (Ex.new (T.S.ex.free h))
  np := T.np
theorem TrS.call {G' H' : Hp} (T : TrS d H0 B p ps evs G H) (g : Go (· = d) G H G' H') (hD : Dr G' H' d) : TrS d H0 B p ps evs G' H' where
  S := T.S.call g hD
  hp := g.keep p _ T.hp fun z => T.np z.symm
  h0 := g.new p (by rw [T.hp]; simp) T.h0
  hev := T.hev.up g.up
  np := T.np
theorem TrS.cat {K : PySem.W.Frag} {a b : Addr} {xs ys : List V} {Q : VK} (T : TrS d H0 B p ps evs G H) (ha : G a = some (.tup xs)) (hb : G b = some (.tup ys)) (hz : xs.length + ys.length ≤ 1000)
    (q : ∀ (c : Addr) (G1 H1 : Hp), TrS d H0 B p ps evs G1 H1 → Ex G G1 → G1 c = some (.tup (xs ++ ys)) → Q (.ref c) H1) : rCatA K (.ref a) (.ref b) H Q :=
  cat_x T.S ha hb hz fun c G1 H1 S1 x1 y1 k1 hc => q c G1 H1 ⟨S1, y1 _ _ T.hp, k1 p (by rw [T.hp]; simp) T.h0, T.hev.up x1, T.np⟩ x1 hc
end
/-- a tuple of numbers and texts, settled -/
def RefOk (G : Hp) (v : V) : Prop := ∃ q xs, v = .ref q ∧ G q = some (.tup xs) ∧ Okx xs
theorem RefOk.up {G G' : Hp} {v : V} (h : RefOk G v) (x : Ex G G') : RefOk G' v := by
  obtain ⟨q, xs, e, h1, h2⟩ := h
  exact ⟨q, xs, e, x _ _ h1, h2⟩
theorem sc2I (z : Int) : Scal2 (.int z) := .inl ⟨z, rfl⟩
theorem okx_app {xs ys : List V} (h1 : ∀ x ∈ xs, Scal2 x) (h2 : ∀ x ∈ ys, Scal2 x) (hl : xs.length + ys.length ≤ 100) : Okx (xs ++ ys) :=
  ⟨fun x hx => (List.mem_append.mp hx).elim (h1 x) (h2 x), by rw [List.length_append]; exact hl⟩
theorem cutV_in (xs : List V) (lo hi : Option Int) : (∀ v ∈ cutV xs lo hi, v ∈ xs) ∧ (cutV xs lo hi).length ≤ xs.length := by
  unfold cutV
  refine ⟨fun v h => List.mem_of_mem_drop (List.mem_of_mem_take h), ?_⟩
  rw [List.length_take, List.length_drop]
  omega
theorem sI_neg (n : Nat) (d : Nat) : HT.sIx n d (some (-1)) = ((-1 : Int) + (n : Int)).toNat := rfl
theorem sI_one (n d : Nat) (h : 0 < n) : HT.sIx n d (some 1) = 1 := by
  show (if (1 : Int) < 0 then ((1 : Int) + (n : Int)).toNat else min (1 : Int).toNat n) = 1
  rw [if_neg (by decide)]
  show min 1 n = 1
  omega
theorem isEv_head {xs : List V} (h : isEv xs = true) : ∃ t ys, xs = .int t :: ys ∧ 0 ≤ t := by
  match xs, h with
  | .int t :: ys, h =>
    have h' : (withinV (.int t) 0 999999 && thingOk ys) = true := h
    rw [Bool.and_eq_true] at h'
    have h2 : (decide (0 ≤ t) && decide (t ≤ 999999)) = true := h'.1
    rw [Bool.and_eq_true] at h2
    exact ⟨t, ys, rfl, of_decide_eq_true h2.1⟩
theorem getD_of {evs : List (List V)} {i : Nat} {xs : List V} (h : evs[i]? = some xs) : evs.getD i [] = xs := by
  rw [List.getD_eq_getElem?_getD, h]
  rfl
/-- a good event, drawn -/
def GoodEv (xs : List V) : Prop := isEv xs = true ∧ Okx xs ∧ xs.length ≤ 5 ∧ ∃ t ys, xs = .int t :: ys ∧ 0 ≤ t ∧ t ≤ 999999 ∧ thingOk ys = true
theorem good_mk {t : Int} {ys : List V} (h0 : 0 ≤ t) (h1 : t ≤ 999999) (h : thingOk ys = true) (hl : ys.length ≤ 4) : GoodEv (.int t :: ys) := by
  refine ⟨?_, ⟨fun x hx => ?_, ?_⟩, ?_, t, ys, rfl, h0, h1, h⟩
  · show (withinV (.int t) 0 999999 && thingOk ys) = true
    rw [win ⟨h0, h1⟩, h]
    rfl
  · rcases List.mem_cons.mp hx with rfl | hx
    · exact .inl ⟨t, rfl⟩
    · exact thing_scal h x hx
  · rw [List.length_cons]
    omega
  · rw [List.length_cons]
    omega
/-- the ticks rise -/
def Rise (evs : List (List V)) : Prop := ∀ (i : Nat) (x y : List V), evs[i]? = some x → evs[i + 1]? = some y → tickOf x ≤ tickOf y
/-- a good track drawn: a new list, not settled -/
def spTrack : Sp := fun vs H Q _ => ∃ (d : Addr) (m : Nat) (H0 : Hp), vs = [.ref d, .int (m : Int)] ∧ m ≤ 1000 ∧ Ex H0 H ∧ Dr H0 H d ∧
  ∀ (p : Addr) (ps : List Addr) (evs : List (List V)) (G0 H' : Hp), Go (· = d) H0 H G0 H' → Dr G0 H' d → H p = none → H' p = some (.lst (ps.map V.ref)) → G0 p = none → Evs G0 ps evs → evs.length ≤ m → (∀ xs ∈ evs, GoodEv xs) → Rise evs → Q (.ref p) H'
end Rt

namespace Rt
open PySem PySem.Spec PyProof.Rows L2 RZ TL
/-! ### {t} of a tuple of numbers and texts: some text -/
def Scal3 (v : V) : Prop := (∃ z : Int, v = .int z ∧ z.natAbs < 10 ^ 40) ∨ ∃ s : Str, v = .str s ∧ s.length ≤ 100 ∧ PyData.strOk s = true
theorem Scal3.s2 {v : V} (h : Scal3 v) : Scal2 v := h.elim (fun ⟨z, e, _⟩ => .inl ⟨z, e⟩) fun ⟨s, e, l, k⟩ => .inr ⟨s, e, by omega, k⟩
def scT (v : V) : Str := match v with
  | .int z => (toString z : String)
  | .str y => reprText y
  | _ => Str.empty
theorem strOk_lt {s : Str} (h : PyData.strOk s = true) : ∀ c ∈ s.cps.toList, c < 16 ^ 8 := fun c hc => by
  unfold PyData.strOk at h
  rw [← Array.all_toList] at h
  have := of_decide_eq_true (List.all_eq_true.mp h c hc)
  exact Nat.lt_trans this (by decide)
theorem scT_len {v : V} (h : Scal3 v) : (scT v).length ≤ 1921 := by
  rcases h with ⟨z, rfl, hz⟩ | ⟨s, rfl, hl, hk⟩
  · exact PyProof.Rows.int_text_len_1921 (log_small hz)
  · have := StrLaws.reprText_len s (strOk_lt hk)
    show (reprText s).length ≤ 1921
    omega
theorem scT_all {prog : Program} {w : World} : ∀ {xs : List V} {its : List Value}, Vals xs its → (∀ v ∈ xs, Scal3 v) → ReprAll prog w its (xs.map scT)
  | [], _, r, _ => by
    cases r
    exact .nil
  | v :: xs, _, r, h => by
    cases r with
    | cons r1 r2 =>
      have tl := scT_all (prog := prog) (w := w) r2 fun z hz => h z (.tail _ hz)
      have hlen := scT_len (h v (.head _))
      rcases h v (.head _) with ⟨z, rfl, hz⟩ | ⟨s, rfl, hl, hk⟩
      · obtain ⟨t, rfl⟩ := r1
        exact .cons (ReprIs.int t (log_small hz)) tl
      · obtain ⟨t, rfl⟩ := r1
        exact .cons (ReprIs.str s t (mem_sz (by have : (reprText s).length ≤ 1921 := hlen; omega))) tl
theorem scT_piled : ∀ xs : List V, (∀ v ∈ xs, Scal3 v) → piled (xs.map scT) ≤ 1923 * xs.length
  | [], _ => Nat.zero_le _
  | v :: xs, h => by
    have h1 := scT_len (h v (.head _))
    have h2 := scT_piled xs fun z hz => h z (.tail _ hz)
    rw [List.map_cons, piled_cons, List.length_cons]
    omega
def tFmtM (K : PySem.W.Frag) (te : TE) : TE := fun σ H Q => te σ H fun x H1 => ∃ (a : Addr) (xs : List V), x = .ref a ∧ SqT K H1 a xs ∧ (∀ v ∈ xs, Scal3 v) ∧ xs.length ≤ 50 ∧ ∀ m : Str, m.length ≤ 100000 → Q (.str m) H1
theorem pe_fmtM {X : Cx} {e : Expr} {te : TE} {pos : Pos} {k : Nat} (hr : Room k X.A) (he : PE X e te) : PE X (.FormattedValue e (-1) none pos) (tFmtM X.K te) := by
  refine ⟨fun pins s σ H Q I h => ?_⟩
  refine wpAny_FormattedValue_plain (thn (he.run pins s σ H _ I h) fun v s1 hv => ?_)
  obtain ⟨x, H1, I1, r1, a, xs, rfl, ht, hc, hl, q⟩ := hv
  cases r1
  obtain ⟨its, rv, ⟨o, ho, hcl, n, hd⟩, _⟩ := I1.tuple ht
  have hp := scT_piled xs hc
  have htx := fmt_text (xs.map scT)
  have hu := hr.units
  have hb : (tupleText (xs.map scT)).length ≤ 99000 := by omega
  exact fmt_tuple (ts := xs.map scT) (by omega) ho hcl hd (scT_all rv hc) (mem_sz (by omega)) fun m u tk hm => ⟨.str m, H1, I1.tok _, ⟨u, rfl⟩, q m (by omega)⟩
theorem withinAll_small : ∀ (vs : List V) (bs : List (Int × Int)), (∀ b ∈ bs, 0 ≤ b.1 ∧ b.2 ≤ 127) → withinAll vs bs = true → ∀ v ∈ vs, ∃ z, v = .int z ∧ 0 ≤ z ∧ z ≤ 127
  | [], _, _, _, v, hv => nomatch hv
  | x :: vs, [], _, h, _, _ => nomatch h
  | x :: vs, b :: bs, hb, h, v, hv => by
    have h' : (withinV x b.1 b.2 && withinAll vs bs) = true := h
    rw [Bool.and_eq_true] at h'
    rcases List.mem_cons.mp hv with rfl | hv
    · cases v with
      | int z =>
        have h2 : (decide (b.1 ≤ z) && decide (z ≤ b.2)) = true := h'.1
        rw [Bool.and_eq_true] at h2
        have h3 := of_decide_eq_true h2.1
        have h4 := of_decide_eq_true h2.2
        have h5 := hb b (.head _)
        exact ⟨z, rfl, by omega, by omega⟩
      | _ => exact absurd h'.1 (by simp [withinV])
    · exact withinAll_small vs bs (fun c hc => hb c (.tail _ hc)) h'.2 v hv
theorem wordB_small {w : Str} {bs : List (Int × Int)} (hb : wordB w = some bs) : (∀ b ∈ bs, 0 ≤ b.1 ∧ b.2 ≤ 127) ∧ PyData.strOk w = true ∧ w.length ≤ 100 := by
  unfold wordB at hb
  by_cases e1 : w = "on"
  · rw [if_pos e1] at hb
    cases hb
    rw [e1]
    exact ⟨by decide, by decide +kernel, by decide⟩
  rw [if_neg e1] at hb
  by_cases e2 : w = "off"
  · rw [if_pos e2] at hb
    cases hb
    rw [e2]
    exact ⟨by decide, by decide +kernel, by decide⟩
  rw [if_neg e2] at hb
  by_cases e3 : w = "knob"
  · rw [if_pos e3] at hb
    cases hb
    rw [e3]
    exact ⟨by decide, by decide +kernel, by decide⟩
  rw [if_neg e3] at hb
  by_cases e4 : w = "voice"
  · rw [if_pos e4] at hb
    cases hb
    rw [e4]
    exact ⟨by decide, by decide +kernel, by decide⟩
  rw [if_neg e4] at hb
  cases hb
theorem sc3I {z : Int} (h0 : -10000000 ≤ z) (h1 : z ≤ 10000000) : Scal3 (.int z) := by
  have : (10000000 : Nat) < 10 ^ 40 := by decide
  exact .inl ⟨z, rfl, by omega⟩
theorem thing_scal3 {xs : List V} (h : thingOk xs = true) : ∀ x ∈ xs, Scal3 x := by
  match xs, h with
  | .str w :: r, h =>
    by_cases hw : w = "mark"
    · subst hw
      rw [thing_mark] at h
      match r, h with
      | [y], h =>
        intro x hx
        simp only [List.mem_cons, List.mem_nil_iff, or_false] at hx
        rcases hx with rfl | rfl
        · exact .inr ⟨_, rfl, by decide, by decide +kernel⟩
        · cases x with
          | str s =>
            have h' : (decide (s.length ≤ 12) && s.cps.toList.all (fun c => decide (c ∈ signsS.cps.toList))) = true := h
            rw [Bool.and_eq_true] at h'
            have h1 := of_decide_eq_true h'.1
            exact .inr ⟨s, rfl, by omega, strOk_signs fun c hc => of_decide_eq_true (List.all_eq_true.mp h'.2 c hc)⟩
          | _ => cases h
    · rw [thing_word hw] at h
      cases hb : wordB w with
      | none => rw [hb] at h; cases h
      | some bs =>
        rw [hb] at h
        have h' : withinAll r bs = true := h
        obtain ⟨b1, b2, b3⟩ := wordB_small hb
        intro x hx
        rcases List.mem_cons.mp hx with rfl | hx
        · exact .inr ⟨w, rfl, b3, b2⟩
        · obtain ⟨z, rfl, z0, z1⟩ := withinAll_small r bs b1 h' x hx
          exact sc3I (by omega) (by omega)
theorem Evs.take {G : Hp} {ps : List Addr} {evs : List (List V)} (h : Evs G ps evs) (n : Nat) : Evs G (ps.take n) (evs.take n) := by
  refine ⟨by rw [List.length_take, List.length_take, h.1], fun i p xs h1 h2 => ?_⟩
  rw [List.getElem?_take] at h1 h2
  by_cases c : i < n
  · rw [if_pos c] at h1 h2
    exact h.2 i p xs h1 h2
  · rw [if_neg c] at h1
    cases h1
theorem Evs.drop {G : Hp} {ps : List Addr} {evs : List (List V)} (h : Evs G ps evs) (n : Nat) : Evs G (ps.drop n) (evs.drop n) := by
  refine ⟨by rw [List.length_drop, List.length_drop, h.1], fun i p xs h1 h2 => ?_⟩
  rw [List.getElem?_drop] at h1 h2
  exact h.2 (n + i) p xs h1 h2
theorem Evs.append {G : Hp} {ps qs : List Addr} {evs fvs : List (List V)} (h : Evs G ps evs) (k : Evs G qs fvs) : Evs G (ps ++ qs) (evs ++ fvs) := by
  refine ⟨by rw [List.length_append, List.length_append, h.1, k.1], fun i p xs h1 h2 => ?_⟩
  by_cases c : i < ps.length
  · rw [List.getElem?_append_left c] at h1
    rw [List.getElem?_append_left (by rw [← h.1]; exact c)] at h2
    exact h.2 i p xs h1 h2
  · rw [List.getElem?_append_right (by omega)] at h1
    rw [List.getElem?_append_right (by rw [← h.1]; omega), ← h.1] at h2
    exact k.2 _ p xs h1 h2
theorem Evs.one {G : Hp} {p : Addr} {xs : List V} (h : G p = some (.tup xs)) : Evs G [p] [xs] := by
  have := (Evs.nil G).snoc h
  exact this
theorem cutV_take (xs : List V) (n : Nat) (h : n ≤ xs.length) : cutV xs none (some (n : Int)) = xs.take n := by
  unfold cutV
  have e1 : HT.sIx xs.length 0 none = 0 := rfl
  have e2 : HT.sIx xs.length xs.length (some (n : Int)) = n := by
    show (if (n : Int) < 0 then ((n : Int) + (xs.length : Int)).toNat else min (n : Int).toNat xs.length) = n
    rw [if_neg (by omega)]
    omega
  rw [e1, e2]
  rfl
theorem cutV_drop (xs : List V) (n : Nat) (h : n ≤ xs.length) : cutV xs (some (n : Int)) none = xs.drop n := by
  unfold cutV
  have e1 : HT.sIx xs.length xs.length none = xs.length := rfl
  have e2 : HT.sIx xs.length 0 (some (n : Int)) = n := by
    show (if (n : Int) < 0 then ((n : Int) + (xs.length : Int)).toNat else min (n : Int).toNat xs.length) = n
    rw [if_neg (by omega)]
    omega
  rw [e1, e2, List.take_of_length_le (by rw [List.length_drop]; exact Nat.le_refl _)]
/-- the like of TrS.cat for a settled stand -/
theorem cat_s {K : PySem.W.Frag} {d : Addr} {H0 B G0 H : Hp} {a b : Addr} {xs ys : List V} {Q : VK} (S : Sd d H0 B G0 H) (ha : G0 a = some (.tup xs)) (hb : G0 b = some (.tup ys)) (hz : xs.length + ys.length ≤ 1000)
    (q : ∀ (c : Addr) (G1 H1 : Hp), Sd d H0 B G1 H1 → Ex G0 G1 → Ex H H1 → G1 c = some (.tup (xs ++ ys)) → Q (.ref c) H1) : rCatA K (.ref a) (.ref b) H Q :=
  cat_x S ha hb hz fun c G1 H1 S1 x1 y1 _ hc => q c G1 H1 S1 x1 y1 hc
end Rt

namespace Rt
open PySem PySem.Spec PyProof.Rows L2 RZ TL LamX
/-- a settled track and the tables -/
structure KS (d : Addr) (A0 B0 : Hp) (TT : List (Addr × Str)) (p : Addr) (ps : List Addr) (evs : List (List V)) (G H : Hp) : Prop where
  S : Sd d A0 B0 G H
  hp : G p = some (.lst (ps.map V.ref))
  hev : Evs G ps evs
  hT : Tabs TT H
section
variable {d : Addr} {A0 B0 : Hp} {TT : List (Addr × Str)} {p : Addr} {ps : List Addr} {evs : List (List V)} {G H : Hp}
theorem KS.put {x : Addr} (o : HO) (T : KS d A0 B0 TT p ps evs G H) (h : H x = none) : KS d A0 B0 TT p ps evs (upd G x o) (upd H x o) :=
  ⟨T.S.put o h, upPut (T.S.ex.free h) T.hp, T.hev.up (Ex.new (T.S.ex.free h)), tabs_new T.hT h⟩
theorem KS.lay {x : Addr} (o : HO) (T : KS d A0 B0 TT p ps evs G H) (h : H x = none) : KS d A0 B0 TT p ps evs G (upd H x o) :=
  ⟨T.S.lay o h, T.hp, T.hev, tabs_new T.hT h⟩
theorem KS.call {G' H' : Hp} (T : KS d A0 B0 TT p ps evs G H) (g : Go (· = d) G H G' H') (hD : Dr G' H' d) : KS d A0 B0 TT p ps evs G' H' :=
  ⟨T.S.call g hD, g.up _ _ T.hp, T.hev.up g.up, tabs_go T.hT T.S.dr g⟩
theorem KS.pure {H' : Hp} (T : KS d A0 B0 TT p ps evs G H) (g : Go (fun _ => False) G H G H') : KS d A0 B0 TT p ps evs G H' :=
  ⟨T.S.pure g, T.hp, T.hev, T.hT.ext (go_ex g)⟩
theorem KS.cat {K : PySem.W.Frag} {a b : Addr} {xs ys : List V} {Q : VK} (T : KS d A0 B0 TT p ps evs G H) (ha : G a = some (.tup xs)) (hb : G b = some (.tup ys)) (hz : xs.length + ys.length ≤ 1000)
    (q : ∀ (c : Addr) (G1 H1 : Hp), KS d A0 B0 TT p ps evs G1 H1 → Ex G G1 → G1 c = some (.tup (xs ++ ys)) → Q (.ref c) H1) : rCatA K (.ref a) (.ref b) H Q :=
  cat_s T.S ha hb hz fun c G1 H1 S1 x1 y1 hc => q c G1 H1 ⟨S1, x1 _ _ T.hp, T.hev.up x1, T.hT.ext y1⟩ x1 hc
theorem KS.clean (T : KS d A0 B0 TT p ps evs G H) : KS d (Rt.clean G) H TT p ps evs (Rt.clean G) H :=
  ⟨Sd.here (clean_ex T.S.ex) (clean_dr T.S.dr), clean_at T.hp (fun ps z => nomatch z), ⟨T.hev.1, fun i q xs h1 h2 => clean_at (T.hev.2 i q xs h1 h2) (fun ps z => nomatch z)⟩, T.hT⟩
end
def EvK (xs : List V) : Prop := Okx xs ∧ ∃ t ys, xs = .int t :: ys ∧ 0 ≤ t ∧ t ≤ 999999

/-- the settled heap, said less -/
theorem Go.weak {m : Addr → Prop} {G G' H H' : Hp} (g : Go m G H G' H') : Go m G H G H' := ⟨Ex.refl _, g.up.trans g.inn, fun _ _ h => h, g.keep, g.there⟩
theorem take_snoc {α : Type} {l : List α} {i : Nat} {x : α} (h : l[i]? = some x) : l.take (i + 1) = l.take i ++ [x] := by
  rw [List.take_add_one, h]
  rfl
theorem at_last {xs : List V} {z : Int} {j : Nat} {v : V} (e : z = -1) (h : xs[j]? = some v) (hj : j + 1 = xs.length) : atI xs z = some v := by
  subst e
  unfold atI ixN
  rw [if_neg (by decide), if_pos (by omega)]
  show xs[((-1 : Int) + (xs.length : Int)).toNat]? = some v
  rw [show ((-1 : Int) + (xs.length : Int)).toNat = j by omega, h]
theorem EvK.okx {xs : List V} (h : EvK xs) : Okx xs := h.1
end Rt

set_option autoImplicit false
namespace Rt
open PySem PySem.Spec PyProof.Rows L2 RZ LamX
variable [TabsT]
/-! ### promises over data -/
/-- an error of the program: its class's name, its word, which base, its fields -/
structure Ez where
  cls : Str
  word : Str
  tape : Bool
  fs : List (Str × Int) := []
def RaisedZ (K : PySem.W.Frag) (mg : Str → Option Value) (e : Ez) (H : Hp) (cls : Value) (d : Option Addr) (H' : Hp) : Prop := ∃ (C CT dd : Addr), mg e.cls = some (.ref C) ∧ cls = .ref C ∧ d = some dd ∧ H dd = none ∧
  H' = upd H dd (.xd (e.fs.map (fun p => (p.1, V.int p.2)) ++ [(("called" : Str), V.str e.word)])) ∧ XfC K C ∧ PySem.W.findIn K (.ref C) "called" = some none ∧ (∀ p ∈ e.fs, PySem.W.findIn K (.ref C) p.1 = some none) ∧
  mg "TapeError" = some (.ref CT) ∧ PySem.W.exmOne K (.ref C) (.ref CT) = some e.tape ∧ (e.tape = false → ∃ CM : Addr, mg "MissingError" = some (.ref CM) ∧ PySem.W.exmOne K (.ref C) (.ref CM) = some true) ∧
  (e.fs.map (fun p => (p.1, V.int p.2)) ++ [(("called" : Str), V.str e.word)]).lookup ("called" : Str) = some (V.str e.word)
abbrev RZs := List Z → (B → Prop) → (Ez → Prop) → Prop
def NoTb (E0 : Hp) : Prop := ∀ b o, E0 b = some o → isTbl o = false
/-- a settled part without tables, and the tables as they should be -/
structure NtT (E0 H : Hp) : Prop where
  nt : NoTb E0
  tabs : Tabs TabsT.T H
/-- all but the tables stays -/
structure Grown (H H' : Hp) : Prop where
  k : ∀ b o, H b = some o → isTbl o = false → H' b = some o
  th : ∀ b, H b ≠ none → H' b ≠ none
  tabs : Tabs TabsT.T H'
/-- pure: nothing that is there is turned -/
abbrev frP (K : PySem.W.Frag) (E0 E : Hp) : Fr := ⟨K, fun _ => False, E0, E⟩
abbrev frD (K : PySem.W.Frag) (d : Addr) (E0 E : Hp) : Fr := ⟨K, (· = d), E0, E⟩
def Ret (fr : Fr) (b : B) (v : V) (H' : Hp) : Prop := ∃ S, GoZ fr S H' ∧ b.P fr.K S H' (.tmp 0) v
def spZ (K : PySem.W.Frag) (mg : Str → Option Value) (R : RZs) : Sp := fun vs H Q E => ∃ (E0 : Hp) (zs : List Z) (k : B → Prop) (e : Ez → Prop), Le E0 H ∧ NtT E0 H ∧ Zps K E0 vs zs ∧ R zs k e ∧
  (∀ b, k b → ∀ v H', Ret (frP K E0 H) b v H' → Q v H') ∧ (∀ x, e x → ∀ Hb cls d H', Grown H Hb → RaisedZ K mg x Hb cls d H' → E cls d H')
/-- a def that draws: its first argument is the drawing's list -/
def spZd (K : PySem.W.Frag) (R : List Z → (B → Prop) → Prop) : Sp := fun vs H Q E => ∃ (E0 : Hp) (d : Addr) (ws : List V) (zs : List Z) (k : B → Prop), vs = .ref d :: ws ∧ Le E0 H ∧ NtT E0 H ∧ Zps K E0 ws zs ∧ Dr E0 H d ∧ R zs k ∧
  (∀ b, k b → ∀ v H' S, GoZ (frD K d E0 H) S H' → b.P K S H' (.tmp 0) v → DrwP S H' d → Q v H')
/-- what is handed back, to the caller -/
def resB (k : B → Prop) : B → Prop
  | .set z => z.imm = true ∧ k (.set z)
  | .frs z => k (.frs z)
  | .two r => r.im = true ∧ k (.two r)
  | _ => False
def zrd : List B → (List Z → Prop) → Prop
  | [], k => k []
  | b :: bs, k => match b.z with
    | some z => zrd bs fun zs => k (z :: zs)
    | none => False
section
variable {fr : Fr} {F F' : Hp} {Γ : G} {T A : List (V × B)} {σ : L2.St} {H H' : Hp} {S S' : Addr → Own}
theorem noTb_vw {p : Own → Bool} : NoTb (vw S H p) := fun b o e => (vw_of e).2.1
theorem zrd_ok (R : RelS fr F Γ (T ++ A) σ H S) : ∀ {A1 A2 : List (V × B)} {k : List Z → Prop}, A = A1 ++ A2 → zrd (A2.map (·.2)) k → ∃ zs, k zs ∧ Zps fr.K (vw S H allO) (A2.map (·.1)) zs
  | A1, [], k, e, q => ⟨[], q, .nil⟩
  | A1, (v, b) :: A2, k, e, q => by
    have q : (match b.z with | some z => zrd (A2.map (·.2)) fun zs => k (z :: zs) | none => False) := q
    have hv := R.tm (T.length + A1.length) v b (by rw [List.getElem?_append_right (by omega), show T.length + A1.length - T.length = A1.length by omega, e, List.getElem?_append_right (by omega), Nat.sub_self]; rfl)
    split at q
    · rename_i z hz
      obtain ⟨zs, h3, h4⟩ := zrd_ok R (A1 := A1 ++ [(v, b)]) (A2 := A2) (by rw [e, List.append_assoc]; rfl) q
      exact ⟨z :: zs, h3, .cons (B.P.all hv hz) h4⟩
    · exact q.elim
/-- whose things are behind a call: S1 ahead of it, S' by the callee -/
def mrg (H : Hp) (n : Nat) (S1 S' : Addr → Own) : Addr → Own := fun x => if H x = none then (match S' x with
  | .set => .set
  | .tmp _ => .tmp n
  | _ => .out) else S1 x
theorem mrg_old {n : Nat} {x : Addr} (h : H x ≠ none) : mrg H n S S' x = S x := if_neg h
theorem mrg_new {n : Nat} {x : Addr} (h : H x = none) : mrg H n S S' x = (match S' x with | .set => .set | .tmp _ => .tmp n | _ => .out) := if_pos h
theorem goz_mrg {K : PySem.W.Frag} {m : Addr → Prop} {E0 : Hp} (g : GoZ fr S H) (g' : GoZ ⟨K, m, E0, H⟩ S' H') (n : Nat) (hm : ∀ x, m x → S x = .drw ∧ ∃ o, H x = some o ∧ isTup o = false) : GoZ fr (mrg H n S S') H' := by
  refine ⟨fun x o e => ?_, fun b o e tb nm => ?_, fun b e => ?_, fun b o e h => ?_, fun b i h => ?_, fun b j h => ?_, fun b h => ?_, g'.tabs⟩
  · obtain ⟨e1, e2, e3⟩ := vw_of (g.up x o e)
    have hx : H x ≠ none := by rw [e1]; simp
    have nm : ¬ m x := fun hmx => by
      obtain ⟨h1, o', h2, h3⟩ := hm x hmx
      rw [e1] at h2
      cases h2
      rcases e3 with c | c
      · rw [h3] at c; cases c
      · have c : S x = .set := of_decide_eq_true c
        rw [h1] at c; cases c
    exact vw_at (g'.keep x o e1 e2 nm) e2 (e3.imp id fun c => decide_eq_true ((mrg_old hx).trans (of_decide_eq_true c)))
  · have nb : ¬ m b := fun hmx => by
      obtain ⟨h1, _⟩ := hm b hmx
      rcases g.ownD b h1 with q | q
      · rw [q] at e; cases e
      · exact nm q
    exact g'.keep b o (g.keep b o e tb nm) tb nb
  · exact g'.there b (g.there b e)
  · have hb := g.there b (by rw [e]; simp)
    rw [mrg_old hb] at h
    exact g.new b o e h
  · by_cases hb : H b = none
    · rw [mrg_new hb] at h
      cases q : S' b <;> rw [q] at h <;> cases h
    · rw [mrg_old hb] at h
      exact g.ownS b i h
  · by_cases hb : H b = none
    · cases q : fr.E b with
      | none => rfl
      | some u => exact absurd hb (g.there b (by rw [q]; simp))
    · rw [mrg_old hb] at h
      exact g.ownT b j h
  · by_cases hb : H b = none
    · rw [mrg_new hb] at h
      cases q : S' b <;> rw [q] at h <;> cases h
    · rw [mrg_old hb] at h
      exact g.ownD b h
/-- behind a pure call -/
theorem RelS.call (R : RelS fr F Γ (T ++ A) σ H S) {E0 : Hp} (g' : GoZ (frP fr.K E0 H) S' H') {v : V} {b c : B} (hc : c.P fr.K (mrg H T.length S S') H' (.tmp T.length) v) : RelS fr F Γ (T ++ [(v, c)]) σ H' (mrg H T.length S S') :=
  R.ext (goz_mrg R.go g' _ (fun _ h => h.elim)) (fun x o e t => g'.keep x o e t fun z => z) (fun x h c => (mrg_old h).trans c) (fun x h c => (mrg_old h).trans c) (fun x i h c => (mrg_old h).trans c) (fun x j h _ c => (mrg_old h).trans c) hc
/-- the result, seen by the caller -/
theorem P_res {K : PySem.W.Frag} {E0 : Hp} {v : V} {b : B} {n : Nat} {k : B → Prop} (g' : GoZ (frP K E0 H) S' H') (hb : b.P K S' H' (.tmp 0) v) (hk : resB k b) : ∃ c, k c ∧ c.P K (mrg H n S S') H' (.tmp n) v := by
  cases b with
  | set z =>
    have hb : Zp K (vw S' H' (eqO .set)) v z := hb
    exact ⟨.set z, hk.2, show Zp K (vw (mrg H n S S') H' (eqO .set)) v z from hb.imm (fun b xs e => vw_at (vw_of e).1 rfl (.inl rfl)) hk.1⟩
  | frs z =>
    refine ⟨.frs z, hk, Zp.up (vw_le fun x o e _ c => ⟨e, c.imp id fun c => decide_eq_true ?_⟩) hb⟩
    have c := of_decide_eq_true c
    rw [mrg_new (g'.ownT x 0 c), c]
  | two r => exact ⟨.two r, hk.2, TwoP.moveI hb hk.1 (fun b xs e => vw_at (vw_of e).1 rfl (.inl rfl)) fun a o e _ s => ⟨by rw [mrg_new (g'.ownT a 0 s), s], e⟩⟩
  | _ => exact hk.elim
def zCall (R : RZs) (dz : List Z) (ed : Ez → Prop) (za : ZA) : ZE := fun Γ k => za Γ fun bs => zrd bs fun zs => R (zs ++ dz) (resB k) ed
theorem z_call {mg : Str → Option Value} {R : RZs} {n : Nat} {t : TA} {za : ZA} {dvs : List V} {dz : List Z} (ha : SA fr n t za) (hd : Zps fr.K (fun _ => none) dvs dz) : SE fr (tCall (spZ fr.K mg R) dvs E0 t) (zCall R dz (fun _ => False) za) := by
  intro F Γ T σ H Q k R0 kq q
  refine ha F Γ T σ H _ _ R0 (fun bs hb A H1 e1 e2 R1 => ?_) q
  obtain ⟨S, R1⟩ := R1
  subst e1
  obtain ⟨zs, hk, hz⟩ := zrd_ok R1 (A1 := []) (A2 := A) rfl hb
  refine ⟨vw S H1 allO, zs ++ dz, resB k, fun _ => False, vw_ex, ⟨noTb_vw, R1.go.tabs⟩, zps_app hz (hd.up fun b o e => by cases e), hk, fun b hb v H' ⟨S', g', hp⟩ => ?_, fun x h => h.elim⟩
  obtain ⟨c, h1, h2⟩ := P_res (S := S) (n := T.length) g' hp hb
  exact kq _ h1 v H' ⟨_, R1.call (b := b) g' h2⟩
/-- no arguments -/
theorem za_none : SA fr 0 tNil zNil := za_nil
/-- all that is handed in is settled -/
def resS (k : B → Prop) : B → Prop
  | .set z => k (.set z)
  | .frs z => k (.frs z)
  | .two r => k (.two r)
  | _ => False
def zCallS (R : RZs) (dz : List Z) (ed : Ez → Prop) (za : ZA) : ZE := fun Γ k => za Γ fun bs => tks bs fun zs => R (zs ++ dz) (resS k) ed
/-- a drawing, seen at a slot -/
theorem DrwP.dr {d : Addr} (h : DrwP S H d) : Dr (vw S H (eqO .set)) H d := by
  obtain ⟨s, a, ns, i, j, k, l, h1, h2, h3⟩ := h
  refine ⟨⟨a, ns, i, j, k, l, h1, h2, h3⟩, ?_⟩
  cases e : vw S H (eqO .set) d with
  | none => rfl
  | some o =>
    obtain ⟨e1, e2, e3⟩ := vw_of e
    rw [h1] at e1
    cases e1
    rcases e3 with c | c
    · cases c
    · have c : S d = .set := of_decide_eq_true c
      rw [s] at c; cases c
/-- what an older promise hands back -/
def ownG (G' : Hp) (d : Addr) : Addr → Own := fun x => if x = d then .drw else if (G' x).isSome = true then .set else .out
theorem ownG_d {G' : Hp} {d : Addr} : ownG G' d d = .drw := if_pos rfl
theorem ownG_at {G' : Hp} {d x : Addr} (h : x ≠ d) (g : G' x ≠ none) : ownG G' d x = .set := by
  unfold ownG
  rw [if_neg h, if_pos (by cases e : G' x with | none => exact absurd e g | some _ => rfl)]
theorem ownG_set {G' : Hp} {d x : Addr} (h : ownG G' d x = .set) : x ≠ d ∧ G' x ≠ none := by
  unfold ownG at h
  split at h
  · cases h
  · rename_i c
    split at h
    · rename_i c2
      exact ⟨c, fun e => by rw [e] at c2; cases c2⟩
    · cases h
theorem go_z {K : PySem.W.Frag} {E0 G' : Hp} {d : Addr} (nt : NtT E0 H) (x : Dr E0 H d) (g : Go (· = d) E0 H G' H') (x' : Dr G' H' d) : GoZ (frD K d E0 H) (ownG G' d) H' ∧ DrwP (ownG G' d) H' d ∧ ∀ b o, G' b = some o → isTbl o = false → vw (ownG G' d) H' (eqO .set) b = some o := by
  have at_ : ∀ b o, G' b = some o → isTbl o = false → vw (ownG G' d) H' (eqO .set) b = some o := fun b o e n => by
    have nb : b ≠ d := fun z => by rw [z, x'.out] at e; cases e
    exact vw_at (g.inn b o e) n (.inr (decide_eq_true (ownG_at nb (by rw [e]; simp))))
  refine ⟨⟨fun b o e => at_ b o (g.up b o e) (nt.nt b o e), fun b o e _ n => g.keep b o e n, g.there, fun b o e h => ?_, fun b i h => ?_, fun b j h => ?_, fun b h => ?_, tabs_go nt.tabs x g⟩, ?_, at_⟩
  · have c := ownG_set h
    refine .inl fun z => c.2 (g.new b ?_ z)
    have e : H b = some o := e
    rw [e]; simp
  · unfold ownG at h
    split at h
    · cases h
    · split at h <;> cases h
  · unfold ownG at h
    split at h
    · cases h
    · split at h <;> cases h
  · unfold ownG at h
    split at h
    · rename_i c
      exact .inr c
    · split at h <;> cases h
  · obtain ⟨⟨a, ns, i, j, k, l, h1, h2, h3⟩, _⟩ := x'
    exact ⟨ownG_d, a, ns, i, j, k, l, h1, at_ _ _ h2 rfl, h3⟩
/-- a draw's result -/
theorem P_resD {K : PySem.W.Frag} {E0 : Hp} {d : Addr} {v : V} {b : B} {n : Nat} {k : B → Prop} (h0 : E0 = vw S H (eqO .set)) (g' : GoZ (frD K d E0 H) S' H') (hd : DrwP S' H' d) (hb : b.P K S' H' (.tmp 0) v) (hk : resS k b) : ∃ c, k c ∧ c.P K (mrg H n S S') H' (.tmp n) v := by
  have le : Le (vw S' H' (eqO .set)) (vw (mrg H n S S') H' (eqO .set)) := by
    refine vw_le fun x o e nt c => ⟨e, ?_⟩
    rcases c with c | c
    · exact .inl c
    · have c : S' x = .set := of_decide_eq_true c
      cases hx : H x with
      | none =>
        refine .inr (decide_eq_true ?_)
        rw [mrg_new hx, c]
      | some u =>
        rcases g'.new x u hx c with q | q
        · cases e0 : E0 x with
          | none => exact absurd e0 q
          | some w =>
            have e0' := e0
            rw [h0] at e0
            obtain ⟨e1, e2, e3⟩ := vw_of e0
            have e4 := (vw_of (g'.up x w e0')).1
            rcases e3 with t | t
            · rw [e] at e4; cases e4; exact .inl t
            · exact .inr (decide_eq_true ((mrg_old (by rw [hx]; simp)).trans (of_decide_eq_true t)))
        · by_cases hx2 : x = d
          · rw [hx2, hd.1] at c
            cases c
          · have := g'.keep x u hx (tup_tbl q) hx2
            rw [e] at this
            cases this
            exact .inl q
  cases b with
  | set z => exact ⟨.set z, hk, Zp.up le hb⟩
  | two r => exact ⟨.two r, hk, TwoP.move hb le fun a o e _ s => ⟨by rw [mrg_new (g'.ownT a 0 s), s], e⟩⟩
  | frs z =>
    refine ⟨.frs z, hk, Zp.up (vw_le fun x o e _ c => ⟨e, c.imp id fun c => decide_eq_true ?_⟩) hb⟩
    have c := of_decide_eq_true c
    rw [mrg_new (g'.ownT x 0 c), c]
  | _ => exact hk.elim
theorem P_resS {K : PySem.W.Frag} {E0 : Hp} {v : V} {b : B} {n : Nat} {k : B → Prop} (h0 : E0 = vw S H (eqO .set)) (g' : GoZ (frP K E0 H) S' H') (hb : b.P K S' H' (.tmp 0) v) (hk : resS k b) : ∃ c, k c ∧ c.P K (mrg H n S S') H' (.tmp n) v := by
  have le : Le (vw S' H' (eqO .set)) (vw (mrg H n S S') H' (eqO .set)) := by
    refine vw_le fun x o e nt c => ⟨e, ?_⟩
    rcases c with c | c
    · exact .inl c
    · have c : S' x = .set := of_decide_eq_true c
      cases hx : H x with
      | none =>
        refine .inr (decide_eq_true ?_)
        rw [mrg_new hx, c]
      | some u =>
        rcases g'.new x u hx c with q | q
        · cases e0 : E0 x with
          | none => exact absurd e0 q
          | some w =>
            rw [h0] at e0
            obtain ⟨e1, e2, e3⟩ := vw_of e0
            rw [hx] at e1
            cases e1
            have ex := g'.keep x u hx e2 fun z => z
            rw [e] at ex
            cases ex
            exact e3.imp id fun t => decide_eq_true ((mrg_old (by rw [hx]; simp)).trans (of_decide_eq_true t))
        · have ex := g'.keep x u hx (tup_tbl q) fun z => z
          rw [e] at ex
          cases ex
          exact .inl q
  cases b with
  | set z => exact ⟨.set z, hk, Zp.up le hb⟩
  | two r => exact ⟨.two r, hk, TwoP.move hb le fun a o e _ s => ⟨by rw [mrg_new (g'.ownT a 0 s), s], e⟩⟩
  | frs z =>
    refine ⟨.frs z, hk, Zp.up (vw_le fun x o e _ c => ⟨e, c.imp id fun c => decide_eq_true ?_⟩) hb⟩
    have c := of_decide_eq_true c
    rw [mrg_new (g'.ownT x 0 c), c]
  | _ => exact hk.elim
/-- the temporary ones are settled -/
theorem RelS.retm (R : RelS fr F Γ (T ++ A) σ H S) : RelS fr F Γ T σ H (retm T.length .set S) :=
  have R2 := R.ext (R.go.retm T.length (.inl rfl)) (fun _ _ e _ => e) (fun _ _ h => retm_drw h) (fun _ _ h => retm_set h) (fun _ _ _ h => retm_slot h) (fun _ _ _ hj h => retm_lo hj h) (v := .non) (b := .set .non) .non
  ⟨R2.go, R2.f, R2.len, R2.sl, fun j v b e => R2.tm j v b (by rw [List.getElem?_append_left (no_of_tup e)]; exact e), R2.nb⟩
theorem z_callS {mg : Str → Option Value} {R : RZs} {n : Nat} {t : TA} {za : ZA} {dvs : List V} {dz : List Z} (ha : SA fr n t za) (hd : Zps fr.K (fun _ => none) dvs dz) : SE fr (tCall (spZ fr.K mg R) dvs E0 t) (zCallS R dz (fun _ => False) za) := by
  intro F Γ T σ H Q k R0 kq q
  refine ha F Γ T σ H _ _ R0 (fun bs hb A H1 e1 e2 R1 => ?_) q
  obtain ⟨S, R1⟩ := R1
  subst e1
  obtain ⟨zs, hk, hz⟩ := tks_ok R1 rfl (A1 := []) (A2 := A) rfl hb
  have hz := hz (retm T.length .set S) H1 (fun _ _ e _ => e) fun _ _ => rfl
  have R2 := R1.retm
  refine ⟨vw (retm T.length .set S) H1 (eqO .set), zs ++ dz, resS k, fun _ => False, vw_ex, ⟨noTb_vw, R1.go.tabs⟩, zps_app hz (hd.up fun b o e => by cases e), hk, fun b hb v H' ⟨S', g', hp⟩ => ?_, fun x h => h.elim⟩
  obtain ⟨c, h1, h2⟩ := P_resS (S := retm T.length .set S) (n := T.length) rfl g' hp hb
  exact kq _ h1 v H' ⟨_, RelS.call (A := []) (b := b) (by rw [List.append_nil]; exact R2) g' h2⟩
/-- f(draw, ..) -/
def zDraw (i : Nat) (R : List Z → (B → Prop) → Prop) (za : ZA) : ZE := fun Γ k => match Γ[i]? with
  | some (some (.drw _)) => za Γ fun bs => tks bs fun zs => R zs (resS k)
  | _ => False
theorem z_draw {R : List Z → (B → Prop) → Prop} {i n : Nat} {t : TA} {za : ZA} (ha : SA fr n t za) : SE fr (tCall (spZd fr.K R) [] E0 (tCons (tVar i) t)) (zDraw i R za) := by
  intro F Γ T σ H Q k R0 kq q
  unfold zDraw at q
  split at q
  · rename_i d ei
    obtain ⟨v, hv, ev⟩ : ∃ v, σ[i]? = some (some v) ∧ v = .ref d := by
      obtain ⟨S, R⟩ := R0
      obtain ⟨v, h1, h2, _⟩ := R.sl i _ ei
      exact ⟨v, h1, h2⟩
    subst ev
    refine ⟨_, hv, ?_⟩
    refine ha F Γ T σ H _ _ R0 (fun bs hb A H1 e1 e2 R1 => ?_) q
    obtain ⟨S, R1⟩ := R1
    subst e1
    obtain ⟨zs, hk, hz⟩ := tks_ok R1 rfl (A1 := []) (A2 := A) rfl hb
    have hz := hz (retm T.length .set S) H1 (fun _ _ e _ => e) fun _ _ => rfl
    have R2 := R1.retm
    generalize retm T.length .set S = S1 at hz R2
    obtain ⟨v, _, _, hD⟩ := R2.sl i _ ei
    have sd := hD.1
    refine ⟨vw S1 H1 (eqO .set), d, A.map (·.1), zs, resS k, by rw [List.append_nil], vw_ex, ⟨noTb_vw, R2.go.tabs⟩, hz, hD.dr, hk, fun b hb v H' S' g' hp hD' => ?_⟩
    obtain ⟨c, h1, h2⟩ := P_resD (S := S1) (n := T.length) rfl g' hD' hp hb
    refine kq _ h1 v H' ⟨mrg H1 T.length S1 S', ?_⟩
    obtain ⟨_, a, ns, ii, j, kk, l, g1, g2, g3⟩ := hD
    have hm : ∀ x, x = d → S1 x = .drw ∧ ∃ o, H1 x = some o ∧ isTup o = false := fun x e => by subst e; exact ⟨sd, _, g1, rfl⟩
    have go := goz_mrg R2.go g' T.length hm
    have hk' : ∀ x o, H1 x = some o → isTbl o = false → x ≠ d → H' x = some o := fun x o e t n => g'.keep x o e t n
    have zd : Le (vw S1 H1 (eqO .set)) (vw (mrg H1 T.length S1 S') H' (eqO .set)) := vw_le fun x o e n c => by
      have nx : x ≠ d := fun z => by
        subst z
        rw [g1] at e
        cases e
        rcases c with c | c
        · cases c
        · have c : S1 x = .set := of_decide_eq_true c
          rw [sd] at c
          cases c
      exact ⟨hk' x o e n nx, c.imp id fun c => decide_eq_true ((mrg_old (by rw [e]; simp)).trans (of_decide_eq_true c))⟩
    have mv : ∀ (me : Own) (w : V) (b : B), me ≠ .drw → b.P fr.K S1 H1 me w → b.P fr.K (mrg H1 T.length S1 S') H' me w := fun me w b n hb => by
      by_cases hbd : b = .drw d
      · subst hbd
        obtain ⟨sd', a', ns', i', j', k', l', f1, f2, f3⟩ := hD'
        refine ⟨hb.1, (mrg_old (by rw [g1]; simp)).trans sd, a', ns', i', j', k', l', f1, ?_, f3⟩
        obtain ⟨q1, q2, q3⟩ := vw_of f2
        have q3 : S' a' = .set := q3.elim (fun z => nomatch z) fun z => of_decide_eq_true z
        refine vw_at q1 rfl (.inr (decide_eq_true ?_))
        cases ha : H1 a' with
        | none => rw [mrg_new ha, q3]
        | some u =>
          have nd : a' ≠ d := fun z => by rw [z, sd'] at q3; cases q3
          rcases g'.new a' _ ha q3 with q | q
          · cases e0 : vw S1 H1 (eqO .set) a' with
            | none => exact absurd e0 q
            | some w =>
              obtain ⟨e1, e2, e3⟩ := vw_of e0
              rw [ha] at e1
              cases e1
              have := hk' a' u ha e2 nd
              rw [q1] at this
              cases this
              rcases e3 with t | t
              · cases t
              · exact (mrg_old (by rw [ha]; simp)).trans (of_decide_eq_true t)
          · have := hk' a' u ha (tup_tbl q) nd
            rw [q1] at this
            cases this
            cases q
      · refine hb.move (fun x o e nt c => hk' x o e nt fun z => ?_) (fun x h c => (mrg_old h).trans c) (fun x h c => (mrg_old h).trans c) (fun x h c => (mrg_old h).trans c) (fun st is z _ j _ x h c => .inl ((mrg_old h).trans c)) fun i s _ x h c => (mrg_old h).trans c
        subst z
        rw [g1] at e
        cases e
        rcases c with c | c | c | ⟨st, is, z, eb, j, hj, c⟩ | ⟨d', eb, ed⟩ | ⟨j, s, eb, c⟩
        · cases c
        · rw [sd] at c; cases c
        · exact n (c.symm.trans sd)
        · rw [sd] at c; cases c
        · exact hbd (by rw [eb, ed])
        · rw [sd] at c; cases c
    refine ⟨go, fun x o e => zd x o (R2.f x o e), R2.len, fun j b e => ?_, fun j w b e => ?_, R2.nb⟩
    · obtain ⟨w, h3, h4⟩ := R2.sl j b e
      exact ⟨w, h3, mv _ w b (fun z => nomatch z) h4⟩
    · by_cases hj : j < T.length
      · rw [List.getElem?_append_left hj] at e
        exact mv _ w b (fun z => nomatch z) (R2.tm j w b e)
      · rw [List.getElem?_append_right (by omega)] at e
        have hj2 : j = T.length := by
          have := (List.getElem?_eq_some_iff.mp e).1
          have : j - T.length < 1 := this
          omega
        subst hj2
        rw [Nat.sub_self] at e
        cases e
        exact h2
  · exact q.elim
/-! ### a def -/
/-- what is handed back, by what stands behind the body -/
inductive Cv (Γ : G) : B → B → Prop
  | set (z : Z) : Cv Γ (.set z) (.set z)
  | frs (z : Z) : Cv Γ (.frs z) (.frs z)
  | imm {b : B} {z : Z} (h : b.z = some z) (i : z.imm = true) : Cv Γ b (.set z)
  | ownF {z : Z} (i : Z.imms z.items = true) : Cv Γ (.own z) (.frs z)
  | ownS (z : Z) : Cv Γ (.own z) (.set z)
  | frsS (z : Z) : Cv Γ (.frs z) (.set z)
  | mov (is : List Nat) (z : Z) : Cv Γ (.bor false is z) (.frs z)
  | two (r : Root) : Cv Γ (.two r) (.two r)
theorem goz_out (R : RelS fr F Γ T σ H S) (nd : ∀ b i, S b = .slot i → fr.E b = none) : GoZ fr (fun x => match S x with | .slot _ => .tmp 0 | .tmp _ => .tmp 0 | y => y) H := by
  refine ⟨fun x o e => vw_le (fun x o e _ c => ⟨e, c.imp id fun c => decide_eq_true (by rw [of_decide_eq_true c])⟩) x o (R.go.up x o e), R.go.keep, R.go.there, fun b o e h => ?_, fun b i h => ?_, fun b j h => ?_, fun b h => ?_, R.go.tabs⟩
  · cases q : S b <;> rw [q] at h <;> first | (cases h; done) | exact R.go.new b o e q
  · cases q : S b <;> rw [q] at h <;> cases h
  · cases q : S b with
    | slot i => exact nd b i q
    | tmp i => exact R.go.ownT b i q
    | _ => rw [q] at h; cases h
  · cases q : S b <;> rw [q] at h <;> first | (cases h; done) | exact R.go.ownD b q
theorem Rel.ret {v : V} {b c : B} (R : Rel fr F Γ [(v, b)] σ H) (h : Cv Γ b c) (nd : ∀ S, RelS fr F Γ [(v, b)] σ H S → ∀ x i, S x = .slot i → fr.E x = none) : ∃ S, GoZ fr S H ∧ c.P fr.K S H (.tmp 0) v ∧ ∀ d, Γ[0]? = some (some (.drw d)) → DrwP S H d := by
  have dr : ∀ {b : B} {S : Addr → Own}, RelS fr F Γ [(v, b)] σ H S → ∀ d, Γ[0]? = some (some (.drw d)) → DrwP S H d := fun R d e => by
    obtain ⟨w, _, h⟩ := R.sl 0 _ e
    exact h.2
  cases h with
  | set z =>
    obtain ⟨S, R⟩ := R
    exact ⟨S, R.go, R.tm 0 v _ rfl, dr R⟩
  | frs z =>
    obtain ⟨S, R⟩ := R
    exact ⟨S, R.go, R.tm 0 v _ rfl, dr R⟩
  | two r =>
    obtain ⟨S, R⟩ := R
    exact ⟨S, R.go, R.tm 0 v _ rfl, dr R⟩
  | imm h i =>
    obtain ⟨S, R⟩ := Rel.immB (T := []) R h i
    exact ⟨S, R.go, R.tm 0 v _ rfl, dr R⟩
  | ownS z =>
    obtain ⟨S, R⟩ := Rel.settle (T := []) R rfl
    exact ⟨S, R.go, R.tm 0 v _ rfl, dr R⟩
  | frsS z =>
    obtain ⟨S, R⟩ := Rel.settle (T := []) R rfl
    exact ⟨S, R.go, R.tm 0 v _ rfl, dr R⟩
  | ownF i =>
    rename_i z
    obtain ⟨S, R⟩ := R
    have p : OwnP fr.K S H (.tmp 0) v z := R.tm 0 v _ rfl
    exact ⟨S, R.go, OwnP.mov (p := eqO (.tmp 0)) (decide_eq_true rfl) i p, dr R⟩
  | mov is z =>
    obtain ⟨S, R⟩ := R
    refine ⟨_, goz_out R (nd S R), ?_, fun d e => ?_⟩
    · refine Zp.up (vw_le fun x o e _ c => ⟨e, c.imp id fun c => ?_⟩) (R.tm 0 v _ rfl : Zp fr.K (vw S H (borO false is (.tmp 0))) v z)
      rcases borO_iff.mp c with c | c | ⟨i, hi, c⟩
      · cases c.1
      · exact decide_eq_true (by rw [c])
      · exact decide_eq_true (by rw [c])
    · obtain ⟨s, a, ns, i, j, k, l, h1, h2, h3⟩ := dr R d e
      obtain ⟨q1, q2, q3⟩ := vw_of h2
      exact ⟨by show (match S d with | .slot _ => Own.tmp 0 | .tmp _ => .tmp 0 | y => y) = _; rw [s], a, ns, i, j, k, l, h1, vw_at q1 q2 (q3.imp id fun c => decide_eq_true (by rw [of_decide_eq_true c])), h3⟩
/-- the slots at the entry -/
def startG (N : List Str) (bs : List B) : G := bs.map some ++ List.replicate (N.length - bs.length) none
end
def ownE (E0 : Hp) (d : Option Addr) : Addr → Own := fun x => if some x = d then .drw else if (E0 x).isSome = true then .set else .out
theorem ownE_set {E0 : Hp} {d : Option Addr} {x : Addr} (h : ownE E0 d x = .set) : E0 x ≠ none := by
  unfold ownE at h
  split at h
  · cases h
  · split at h
    · rename_i c
      exact fun e => by rw [e] at c; cases c
    · cases h
theorem ownE_at {E0 : Hp} {d : Option Addr} {x : Addr} (h : E0 x ≠ none) (n : some x ≠ d) : ownE E0 d x = .set := by
  unfold ownE
  rw [if_neg n, if_pos (by cases e : E0 x with | none => exact absurd e h | some _ => rfl)]
theorem ownE_no {E0 : Hp} {d : Option Addr} {x : Addr} : (∀ i, ownE E0 d x ≠ .slot i) ∧ ∀ j, ownE E0 d x ≠ .tmp j := by
  unfold ownE
  refine ⟨fun i h => ?_, fun j h => ?_⟩ <;> (split at h; · cases h
                                             split at h <;> cases h)
theorem startG_at {N : List Str} {bs : List B} {i : Nat} {b : B} (h : (startG N bs)[i]? = some (some b)) : bs[i]? = some b := by
  unfold startG at h
  by_cases hi : i < bs.length
  · rw [List.getElem?_append_left (by rw [List.length_map]; exact hi), List.getElem?_map, List.getElem?_eq_getElem hi] at h
    rw [List.getElem?_eq_getElem hi]
    exact Option.some.inj h
  · rw [List.getElem?_append_right (by rw [List.length_map]; omega), List.getElem?_replicate] at h
    split at h <;> simp at h
theorem start_at {N : List Str} {vs : List V} {i : Nat} {v : V} (h : vs[i]? = some v) : (L2.start N vs)[i]? = some (some v) := by
  unfold L2.start
  have hi := (List.getElem?_eq_some_iff.mp h).1
  rw [List.getElem?_append_left (by rw [List.length_map]; exact hi), List.getElem?_map, h]
  rfl
theorem start_len {N : List Str} {vs : List V} {bs : List B} (h : vs.length = bs.length) : (startG N bs).length = (L2.start N vs).length := by
  unfold startG L2.start
  simp [h]
/-- the entry of a pure def -/
theorem start_rel {K : PySem.W.Frag} {E0 H : Hp} {N : List Str} {vs : List V} {zs : List Z} (h0 : Le E0 H) (nt : NtT E0 H) (hz : Zps K E0 vs zs) : Rel (frP K E0 H) (fun _ => none) (startG N (zs.map B.set)) [] (L2.start N vs) H := by
  have up : Le E0 (vw (ownE E0 none) H (eqO .set)) := fun b o e => vw_at (h0 b o e) (nt.nt b o e) (.inr (decide_eq_true (ownE_at (by rw [e]; simp) (fun z => nomatch z))))
  refine ⟨ownE E0 none, ⟨up, fun b o e _ _ => e, fun b e => e, fun b o e h => .inl (ownE_set h), fun b i h => absurd h (ownE_no.1 i), fun b j h => absurd h (ownE_no.2 j), fun b h => ?_, nt.tabs⟩, (fun b o e => nomatch e), start_len (by rw [List.length_map]; exact hz.len), fun i b e => ?_, fun j v b e => by simp at e, fun i b e => ?_⟩
  · unfold ownE at h
    split at h
    · rename_i c
      cases c
    · split at h <;> cases h
  · have := startG_at e
    rw [List.getElem?_map] at this
    cases q : zs[i]? with
    | none => rw [q] at this; cases this
    | some z =>
      rw [q] at this
      cases this
      obtain ⟨v, h1, h2⟩ := zps_at hz q
      exact ⟨v, start_at h1, h2.up up⟩
  · have := startG_at e
    rw [List.getElem?_map] at this
    cases q : zs[i]? with
    | none => rw [q] at this; cases this
    | some z => rw [q] at this; cases this; rfl
/-- the entry of a drawing def -/
theorem start_relD {K : PySem.W.Frag} {E0 H : Hp} {d : Addr} {N : List Str} {vs : List V} {zs : List Z} (h0 : Le E0 H) (nt : NtT E0 H) (hz : Zps K E0 vs zs) (hd : Dr E0 H d) : Rel (frD K d E0 H) (fun _ => none) (startG N (.drw d :: zs.map B.set)) [] (L2.start N (.ref d :: vs)) H := by
  have up : Le E0 (vw (ownE E0 (some d)) H (eqO .set)) := fun b o e => vw_at (h0 b o e) (nt.nt b o e) (.inr (decide_eq_true (ownE_at (by rw [e]; simp) (fun z => by
    have := Option.some.inj z
    rw [this, hd.out] at e
    cases e))))
  refine ⟨ownE E0 (some d), ⟨up, fun b o e _ _ => e, fun b e => e, fun b o e h => .inl (ownE_set h), fun b i h => absurd h (ownE_no.1 i), fun b j h => absurd h (ownE_no.2 j), fun b h => ?_, nt.tabs⟩, (fun b o e => nomatch e), start_len (by rw [List.length_cons, List.length_cons, List.length_map, hz.len]), fun i b e => ?_, fun j v b e => by simp at e, fun i b e => ?_⟩
  · unfold ownE at h
    split at h
    · rename_i c
      exact .inr (Option.some.inj c)
    · split at h <;> cases h
  · have := startG_at e
    cases i with
    | zero =>
      cases this
      obtain ⟨⟨a, ns, i, j, k, l, h1, h2, h3⟩, _⟩ := hd
      exact ⟨.ref d, start_at rfl, rfl, if_pos rfl, a, ns, i, j, k, l, h1, up _ _ h2, h3⟩
    | succ i =>
      have this : (zs.map B.set)[i]? = some b := this
      rw [List.getElem?_map] at this
      cases q : zs[i]? with
      | none => rw [q] at this; cases this
      | some z =>
        rw [q] at this
        cases this
        obtain ⟨v, h1, h2⟩ := zps_at hz q
        exact ⟨v, start_at (i := i + 1) h1, h2.up up⟩
  · have := startG_at e
    cases i with
    | zero => cases this; rfl
    | succ i =>
      have this : (zs.map B.set)[i]? = some b := this
      rw [List.getElem?_map] at this
      cases q : zs[i]? with
      | none => rw [q] at this; cases this
      | some z => rw [q] at this; cases this; rfl
def zEnd (k : B → Prop) : ZEnds := { nx := fun _ => k (.set .non), rt := fun Γ b => ∃ c, Cv Γ b c ∧ k c }
def zEndD (d : Addr) (k : B → Prop) : ZEnds := { nx := fun Γ => Γ[0]? = some (some (.drw d)) ∧ k (.set .non), rt := fun Γ b => Γ[0]? = some (some (.drw d)) ∧ ∃ c, Cv Γ b c ∧ k c }
section
variable {P : Program} {w : World} {K : PySem.W.Frag} {mg : Str → Option Value} {base : Heap} {x qual : Str} {st : Stmt} {f : Addr} {fd : FuncData} {N ps : List Str} {k : Nat}
/-- a def that turns nothing -/
theorem okZ {R : RZs} (F : Fun K x qual st f fd) (S : FnScope N ps (defScope st)) (hlen : ∀ zs k e, R zs k e → zs.length = ps.length)
    (hbody : ∀ (cdv : Value) (A : Around) (outer : List Env) (s : Shared) (H E0 : Hp) (E : XK), Room k (A.deeper (envOfC qual (defScope st) s.heap.objs.size f cdv)) →
      ∃ t z, PSs (cxOf CX0 P w K mg base N qual (defScope st) f cdv A outer s H E).nox (defBody st) t ∧ SS (frP K E0 H) t z ∧ ∀ zs k, R zs k (fun _ => False) → z (zEnd k) (startG N (zs.map B.set)))
    (hm : ∀ zs k e, R zs k e → R zs k (fun _ => False)) : FnOk P w K mg base CX0 (k + 1) f fd ps (spZ K mg R) := by
  refine F.ok S (fun vs H Q E h => ?_) (fun cdv A outer s H vs Q E hr h => ?_)
  · obtain ⟨E0, zs, k, e, h1, h2, h3, h4, _⟩ := h
    rw [h3.len]
    exact hlen zs k e h4
  · obtain ⟨E0, zs, kk, e, h1, h2, h3, h4, h5, _⟩ := h
    obtain ⟨t, z, ht, hz, hb⟩ := hbody cdv A outer s H E0 E hr
    refine ⟨t, ht, hz (fun _ => none) _ _ _ (zEnd kk) _ (start_rel h1 h2 h3) ⟨fun Γ σ H' R' q => ?_, fun _ _ _ _ q => q.elim, fun _ _ _ _ q => q.elim, fun Γ v b σ H' R' q => ?_⟩ (hb zs kk (hm zs kk e h4))⟩
    · obtain ⟨S, R'⟩ := R'
      exact h5 _ q _ _ ⟨S, R'.go, .non⟩
    · obtain ⟨c, c1, c2⟩ := q
      obtain ⟨S, g1, g2, _⟩ := Rel.ret R' c1 fun S R x i h => (R.go.ownS x i h).elim id fun z => z.elim
      exact h5 c c2 _ _ ⟨S, g1, g2⟩
/-- a def that draws -/
theorem okZd {R : List Z → (B → Prop) → Prop} (F : Fun K x qual st f fd) (S : FnScope N ps (defScope st)) (hlen : ∀ zs k, R zs k → zs.length + 1 = ps.length)
    (hbody : ∀ (cdv : Value) (A : Around) (outer : List Env) (s : Shared) (H E0 : Hp) (d : Addr) (E : XK), Room k (A.deeper (envOfC qual (defScope st) s.heap.objs.size f cdv)) →
      ∃ t z, PSs (cxOf CX0 P w K mg base N qual (defScope st) f cdv A outer s H E).nox (defBody st) t ∧ SS (frD K d E0 H) t z ∧ ∀ zs k, R zs k → z (zEndD d k) (startG N (.drw d :: zs.map B.set))) : FnOk P w K mg base CX0 (k + 1) f fd ps (spZd K R) := by
  refine F.ok S (fun vs H Q E h => ?_) (fun cdv A outer s H vs Q E hr h => ?_)
  · obtain ⟨E0, d, ws, zs, k, rfl, h1, h2, h3, h4, h5, _⟩ := h
    rw [List.length_cons, h3.len]
    exact hlen zs k h5
  · obtain ⟨E0, d, ws, zs, kk, rfl, h1, h2, h3, h4, h5, h6⟩ := h
    obtain ⟨t, z, ht, hz, hb⟩ := hbody cdv A outer s H E0 d E hr
    refine ⟨t, ht, hz (fun _ => none) _ _ _ (zEndD d kk) _ (start_relD h1 h2 h3 h4) ⟨fun Γ σ H' R' q => ?_, fun _ _ _ _ q => q.elim, fun _ _ _ _ q => q.elim, fun Γ v b σ H' R' q => ?_⟩ (hb zs kk h5)⟩
    · obtain ⟨S, R'⟩ := R'
      obtain ⟨w, _, _, hd⟩ := R'.sl 0 _ q.1
      exact h6 _ q.2 _ _ S R'.go .non hd
    · obtain ⟨q0, c, c1, c2⟩ := q
      obtain ⟨S, g1, g2, g3⟩ := Rel.ret R' c1 fun S R x i h => (R.go.ownS x i h).elim id fun z => by
        have z : x = d := z
        obtain ⟨w, _, _, hd⟩ := R.sl 0 _ q0
        rw [z, hd.1] at h
        cases h
      exact h6 c c2 _ _ S g1 g2 (g3 d q0)
end
/-! ### the law's def -/
def frL (K : PySem.W.Frag) : Fr := ⟨K, fun _ => False, fun _ => none, fun _ => none⟩
def zEndL : ZEnds := { nx := fun _ => False, rt := fun _ b => b = .set (.bl true) }
/-- behind the first row of a law -/
theorem law_rel {K : PySem.W.Frag} {n : Nat} {a d : Addr} {H0 H' : Hp} (x : Dr H0 H' d) (e : Ex H0 H') (ht : Tabs TabsT.T H') : Rel (frL K) (fun _ => none) (some .dead :: some (.drw d) :: List.replicate n none) [] (some (.ref a) :: some (.ref d) :: List.replicate n none) H' := by
  refine ⟨fun x => if x = d then .drw else .set, ⟨(fun b o e => nomatch e), (fun b o e _ _ => nomatch e), fun b h => absurd rfl h, (fun b o e => nomatch e), fun b i h => .inl rfl, fun b j h => rfl, fun b h => .inl rfl, ht⟩, (fun b o e => nomatch e), by simp, fun i b h => ?_, fun j v b h => by simp at h, fun i b h => ?_⟩
  · match i, h with
    | 0, h => cases h; exact ⟨_, rfl, True.intro⟩
    | 1, h =>
      cases h
      obtain ⟨⟨a, ns, i, j, k, l, h1, h2, h3⟩, out⟩ := x
      refine ⟨_, rfl, rfl, if_pos rfl, a, ns, i, j, k, l, h1, vw_at (e _ _ h2) rfl (.inr (decide_eq_true (if_neg fun z => ?_))), h3⟩
      rw [z, out] at h2
      cases h2
    | i + 2, h =>
      have h : (List.replicate n (none : Option B))[i]? = some (some b) := h
      rw [List.getElem?_replicate] at h
      split at h <;> simp at h
  · match i, h with
    | 0, h => cases h; rfl
    | 1, h => cases h; rfl
    | i + 2, h =>
      have h : (List.replicate n (none : Option B))[i]? = _ := h
      rw [List.getElem?_replicate] at h
      split at h <;> simp at h
end Rt

namespace Rt
open PySem PySem.Spec PyProof.Rows L2
/-! ### min(ns, default=d), max(ns, default=d) of a list of numbers -/
def rMinD (K : PySem.W.Frag) : List V → List V → Hp → VK → Prop := fun vs zs H Q => ∃ (a : Addr) (ns : List Int) (z : V), vs = [.ref a] ∧ zs = [z] ∧ SqL K H a (ns.map V.int) ∧ (ns = [] → Q z H) ∧ ∀ m, m ∈ ns → (∀ x ∈ ns, m ≤ x) → Q (.int m) H
def rMaxD (K : PySem.W.Frag) : List V → List V → Hp → VK → Prop := fun vs zs H Q => ∃ (a : Addr) (ns : List Int) (z : V), vs = [.ref a] ∧ zs = [z] ∧ SqL K H a (ns.map V.int) ∧ (ns = [] → Q z H) ∧ ∀ m, m ∈ ns → (∀ x ∈ ns, x ≤ m) → Q (.int m) H
theorem ckMin {X : Cx} (hc : X.calm = true) : CallRK X (.builtin "min") ["default"] (rMinD X.K) := by
  intro pins s σ H vs zs us ws Q I rx rz h
  obtain ⟨a, ns, z, rfl, rfl, hs, q0, q1⟩ := h
  obtain ⟨items, rv, hl, _⟩ := I.list hs
  rw [Vals.ref1 rx]
  cases rz with
  | cons r1 r2 =>
    cases r2
    have hi := rv.ints
    obtain ⟨xs, ex⟩ := hi.allInts.items
    have hn : numsOf (intItems xs).toList = ns := by
      rw [← ex]
      exact hi.numsOf
    rw [nums_intItems] at hn
    have hL := hl.isList
    rw [ex] at hL
    refine PySem.call_min_walkD (PySem.W.iter_listW (I.ok.hd hc) hL fun s2 e2 W st hfp hw hk => ?_)
    refine ⟨_, _, _, _, _, _, _, s.heap, fun i j => decide (numAt xs i < numAt xs j), rfl, W, st, hfp, hw, hk, fun n0 s' hm => ?_, fun n1 => ⟨fun i j vi vj s Q E _ hi hj hq => CmpOf.ints_lt (numAt xs) (fun _ _ => intItems_at) i j vi vj s Q E hi hj hq, fun v s' hP hm => ?_⟩⟩
    · obtain ⟨h', tk, rfl, old⟩ := PySem.W.moved_old e2 rfl hm
      refine ⟨z, H, I.kept old, r1, q0 ?_⟩
      subst hn
      have : xs.size = 0 := by simpa [intItems] using n0
      apply List.eq_nil_of_length_eq_zero
      rw [List.length_map, Array.length_toList, this]
    · obtain ⟨h', tk, rfl, old⟩ := PySem.W.moved_old e2 rfl hm
      obtain ⟨t, rfl⟩ := intItems_at hP
      have hsz : 0 < xs.size := by simpa [intItems] using n1
      obtain ⟨c1, c2⟩ := argBest_lt (numAt xs) (xs.size - 1)
      subst hn
      have es : (intItems xs).size = xs.size := by simp [intItems]
      rw [es]
      refine ⟨.int _, H, I.kept old, ⟨_, rfl⟩, q1 _ ?_ fun b hb => ?_⟩
      · rw [numAt_eq]
        refine PySem.getD_mem ?_
        simp only [List.length_map, Array.length_toList]
        omega
      · obtain ⟨j, hj, rfl⟩ := mem_getD hb
        simp only [List.length_map, Array.length_toList] at hj
        rw [← numAt_eq]
        exact c2 j (by omega)
theorem ckMax {X : Cx} (hc : X.calm = true) : CallRK X (.builtin "max") ["default"] (rMaxD X.K) := by
  intro pins s σ H vs zs us ws Q I rx rz h
  obtain ⟨a, ns, z, rfl, rfl, hs, q0, q1⟩ := h
  obtain ⟨items, rv, hl, _⟩ := I.list hs
  rw [Vals.ref1 rx]
  cases rz with
  | cons r1 r2 =>
    cases r2
    have hi := rv.ints
    obtain ⟨xs, ex⟩ := hi.allInts.items
    have hn : numsOf (intItems xs).toList = ns := by
      rw [← ex]
      exact hi.numsOf
    rw [nums_intItems] at hn
    have hL := hl.isList
    rw [ex] at hL
    refine PySem.call_max_walkD (PySem.W.iter_listW (I.ok.hd hc) hL fun s2 e2 W st hfp hw hk => ?_)
    refine ⟨_, _, _, _, _, _, _, s.heap, fun i j => decide (numAt xs i > numAt xs j), rfl, W, st, hfp, hw, hk, fun n0 s' hm => ?_, fun n1 => ⟨fun i j vi vj s Q E _ hi hj hq => CmpOf.ints_gt (numAt xs) (fun _ _ => intItems_at) i j vi vj s Q E hi hj hq, fun v s' hP hm => ?_⟩⟩
    · obtain ⟨h', tk, rfl, old⟩ := PySem.W.moved_old e2 rfl hm
      refine ⟨z, H, I.kept old, r1, q0 ?_⟩
      subst hn
      have : xs.size = 0 := by simpa [intItems] using n0
      apply List.eq_nil_of_length_eq_zero
      rw [List.length_map, Array.length_toList, this]
    · obtain ⟨h', tk, rfl, old⟩ := PySem.W.moved_old e2 rfl hm
      obtain ⟨t, rfl⟩ := intItems_at hP
      have hsz : 0 < xs.size := by simpa [intItems] using n1
      obtain ⟨c1, c2⟩ := argBest_gt (numAt xs) (xs.size - 1)
      subst hn
      have es : (intItems xs).size = xs.size := by simp [intItems]
      rw [es]
      refine ⟨.int _, H, I.kept old, ⟨_, rfl⟩, q1 _ ?_ fun b hb => ?_⟩
      · rw [numAt_eq]
        refine PySem.getD_mem ?_
        simp only [List.length_map, Array.length_toList]
        omega
      · obtain ⟨j, hj, rfl⟩ := mem_getD hb
        simp only [List.length_map, Array.length_toList] at hj
        rw [← numAt_eq]
        exact c2 j (by omega)
end Rt

namespace Rt
open PySem PySem.Spec PyProof.Rows L2 RZ TL LamX
/-! ### events as a type -/
inductive Evt where
  | key (on : Bool) (t c k f : Int)
  | knob (t c k v : Int)
  | voice (t c v : Int)
  | mark (t : Int) (s : Str)
def Evt.word : Evt → Str
  | .key true .. => "on"
  | .key false .. => "off"
  | .knob .. => "knob"
  | .voice .. => "voice"
  | .mark .. => "mark"
def onW (b : Bool) : Str := if b then "on" else "off"
def Evt.v : Evt → List V
  | .key b t c k f => [.int t, .str (onW b), .int c, .int k, .int f]
  | .knob t c k v => [.int t, .str "knob", .int c, .int k, .int v]
  | .voice t c v => [.int t, .str "voice", .int c, .int v]
  | .mark t s => [.int t, .str "mark", .str s]
def Evt.tick : Evt → Int
  | .key _ t .. => t
  | .knob t .. => t
  | .voice t .. => t
  | .mark t _ => t
def low (b : Bool) : Int := if b then 1 else 0
def Evt.Ok : Evt → Prop
  | .key b t c k f => (0 ≤ t ∧ t ≤ 999999) ∧ (0 ≤ c ∧ c ≤ 15) ∧ (0 ≤ k ∧ k ≤ 127) ∧ (low b ≤ f ∧ f ≤ 127)
  | .knob t c k v => (0 ≤ t ∧ t ≤ 999999) ∧ (0 ≤ c ∧ c ≤ 15) ∧ (0 ≤ k ∧ k ≤ 127) ∧ (0 ≤ v ∧ v ≤ 127)
  | .voice t c v => (0 ≤ t ∧ t ≤ 999999) ∧ (0 ≤ c ∧ c ≤ 15) ∧ (0 ≤ v ∧ v ≤ 127)
  | .mark t s => (0 ≤ t ∧ t ≤ 999999) ∧ s.length ≤ 12 ∧ ∀ c ∈ s.cps.toList, c ∈ signsS.cps.toList
theorem Evt.tick_v (e : Evt) : tickOf e.v = e.tick := by cases e <;> rfl
theorem Evt.Ok.tk {e : Evt} (h : e.Ok) : 0 ≤ e.tick ∧ e.tick ≤ 999999 := by cases e <;> exact h.1
theorem win_inv {v : V} {lo hi : Int} (h : withinV v lo hi = true) : ∃ z, v = .int z ∧ lo ≤ z ∧ z ≤ hi := by
  cases v with
  | int z =>
    have h' : (decide (lo ≤ z) && decide (z ≤ hi)) = true := h
    rw [Bool.and_eq_true] at h'
    exact ⟨z, rfl, of_decide_eq_true h'.1, of_decide_eq_true h'.2⟩
  | _ => exact absurd h (by simp [withinV])
theorem winAll3 {r : List V} {b1 b2 b3 : Int × Int} (h : withinAll r [b1, b2, b3] = true) : ∃ x y z, r = [.int x, .int y, .int z] ∧ (b1.1 ≤ x ∧ x ≤ b1.2) ∧ (b2.1 ≤ y ∧ y ≤ b2.2) ∧ (b3.1 ≤ z ∧ z ≤ b3.2) := by
  match r, h with
  | [u, v, w], h =>
    have h' : (withinV u b1.1 b1.2 && (withinV v b2.1 b2.2 && (withinV w b3.1 b3.2 && true))) = true := h
    simp only [Bool.and_eq_true] at h'
    obtain ⟨x, rfl, hx⟩ := win_inv h'.1
    obtain ⟨y, rfl, hy⟩ := win_inv h'.2.1
    obtain ⟨z, rfl, hz⟩ := win_inv h'.2.2.1
    exact ⟨x, y, z, rfl, hx, hy, hz⟩
  | [], h => nomatch h
  | [u], h => exact absurd h (by simp [withinAll])
  | [u, v], h => exact absurd h (by simp [withinAll])
  | u :: v :: w :: y :: r, h => exact absurd h (by simp [withinAll])
theorem winAll2 {r : List V} {b1 b2 : Int × Int} (h : withinAll r [b1, b2] = true) : ∃ x y, r = [.int x, .int y] ∧ (b1.1 ≤ x ∧ x ≤ b1.2) ∧ (b2.1 ≤ y ∧ y ≤ b2.2) := by
  match r, h with
  | [u, v], h =>
    have h' : (withinV u b1.1 b1.2 && (withinV v b2.1 b2.2 && true)) = true := h
    simp only [Bool.and_eq_true] at h'
    obtain ⟨x, rfl, hx⟩ := win_inv h'.1
    obtain ⟨y, rfl, hy⟩ := win_inv h'.2.1
    exact ⟨x, y, rfl, hx, hy⟩
  | [], h => nomatch h
  | [u], h => exact absurd h (by simp [withinAll])
  | u :: v :: w :: r, h => exact absurd h (by simp [withinAll])
theorem thing_head : ∀ {r : List V}, thingOk r = true → ∃ w r', r = .str w :: r'
  | .str w :: r', _ => ⟨w, r', rfl⟩
  | [], h => nomatch h
  | .non :: _, h => nomatch h
  | .bl _ :: _, h => nomatch h
  | .int _ :: _, h => nomatch h
  | .ref _ :: _, h => nomatch h
  | .byt _ :: _, h => nomatch h
theorem text_inv {v : V} (h : textOk v = true) : ∃ s, v = .str s ∧ s.length ≤ 12 ∧ ∀ c ∈ s.cps.toList, c ∈ signsS.cps.toList := by
  cases v with
  | str s =>
    have h3' : (decide (s.length ≤ 12) && s.cps.toList.all (fun c => decide (c ∈ signsS.cps.toList))) = true := h
    rw [Bool.and_eq_true] at h3'
    exact ⟨s, rfl, of_decide_eq_true h3'.1, fun c hc => of_decide_eq_true (List.all_eq_true.mp h3'.2 c hc)⟩
  | _ => cases h
theorem mark_inv : ∀ {r : List V}, markOk r = true → ∃ s, r = [.str s] ∧ s.length ≤ 12 ∧ ∀ c ∈ s.cps.toList, c ∈ signsS.cps.toList
  | [v], h => by
    obtain ⟨s, rfl, h2⟩ := text_inv (v := v) h
    exact ⟨s, rfl, h2⟩
  | [], h => nomatch h
  | _ :: _ :: _, h => nomatch h
/-- a good event is one of the five -/
theorem good_evt {xs : List V} (h : isEv xs = true) : ∃ e : Evt, xs = e.v ∧ e.Ok := by
  match xs, h with
  | t :: r, h =>
    have h' : (withinV t 0 999999 && thingOk r) = true := h
    rw [Bool.and_eq_true] at h'
    obtain ⟨t, rfl, ht⟩ := win_inv h'.1
    obtain ⟨w, r, rfl⟩ := thing_head h'.2
    have h2 := h'.2
    · by_cases hw : w = "mark"
      · subst hw
        rw [thing_mark] at h2
        obtain ⟨s, rfl, h3, h4⟩ := mark_inv h2
        exact ⟨.mark t s, rfl, ht, h3, h4⟩
      · rw [thing_word hw] at h2
        unfold wordB at h2
        by_cases e1 : w = "on"
        · rw [if_pos e1] at h2
          obtain ⟨x, y, z, rfl, hx, hy, hz⟩ := winAll3 h2
          exact ⟨.key true t x y z, by rw [e1]; rfl, ht, hx, hy, hz⟩
        rw [if_neg e1] at h2
        by_cases e2 : w = "off"
        · rw [if_pos e2] at h2
          obtain ⟨x, y, z, rfl, hx, hy, hz⟩ := winAll3 h2
          exact ⟨.key false t x y z, by rw [e2]; rfl, ht, hx, hy, hz⟩
        rw [if_neg e2] at h2
        by_cases e3 : w = "knob"
        · rw [if_pos e3] at h2
          obtain ⟨x, y, z, rfl, hx, hy, hz⟩ := winAll3 h2
          exact ⟨.knob t x y z, by rw [e3]; rfl, ht, hx, hy, hz⟩
        rw [if_neg e3] at h2
        by_cases e4 : w = "voice"
        · rw [if_pos e4] at h2
          obtain ⟨x, y, rfl, hx, hy⟩ := winAll2 h2
          exact ⟨.voice t x y, by rw [e4]; rfl, ht, hx, hy⟩
        rw [if_neg e4] at h2
        cases h2
theorem okx_of_good {xs : List V} (h : GoodEv xs) : Okx xs := h.2.1
/-- a track of good events -/
theorem good_evts : ∀ {evs : List (List V)}, (∀ xs ∈ evs, GoodEv xs) → ∃ es : List Evt, evs = es.map Evt.v ∧ ∀ e ∈ es, e.Ok
  | [], _ => ⟨[], rfl, fun e h => nomatch h⟩
  | x :: r, h => by
    obtain ⟨e, he, ho⟩ := good_evt (h x (.head _)).1
    obtain ⟨es, h1, h2⟩ := good_evts fun y hy => h y (.tail _ hy)
    refine ⟨e :: es, by rw [he, h1]; rfl, fun z hz => ?_⟩
    rcases List.mem_cons.mp hz with rfl | hz
    · exact ho
    · exact h2 z hz
theorem onW_ok (b : Bool) : PyData.strOk (onW b) = true ∧ (onW b).length ≤ 10 := by cases b <;> exact ⟨by decide +kernel, by decide⟩
theorem Evt.Ok.okx {e : Evt} (h : e.Ok) : Okx e.v ∧ e.v.length ≤ 5 := by
  have key : ∀ s : Str, s.length ≤ 12 → PyData.strOk s = true → Scal2 (.str s) := fun s h1 h2 => .inr ⟨s, rfl, by omega, h2⟩
  cases e with
  | key b t c k f =>
    refine ⟨⟨fun x hx => ?_, (by show 5 ≤ 100; decide)⟩, (by show 5 ≤ 5; decide)⟩
    simp only [Evt.v, List.mem_cons, List.mem_nil_iff, or_false] at hx
    rcases hx with rfl | rfl | rfl | rfl | rfl
    · exact sc2I _
    · exact key _ (Nat.le_trans (onW_ok b).2 (by decide)) (onW_ok b).1
    all_goals exact sc2I _
  | knob t c k v =>
    refine ⟨⟨fun x hx => ?_, (by show 5 ≤ 100; decide)⟩, (by show 5 ≤ 5; decide)⟩
    simp only [Evt.v, List.mem_cons, List.mem_nil_iff, or_false] at hx
    rcases hx with rfl | rfl | rfl | rfl | rfl
    · exact sc2I _
    · exact key _ (by decide) (by decide +kernel)
    all_goals exact sc2I _
  | voice t c v =>
    refine ⟨⟨fun x hx => ?_, (by show 4 ≤ 100; decide)⟩, (by show 4 ≤ 5; decide)⟩
    simp only [Evt.v, List.mem_cons, List.mem_nil_iff, or_false] at hx
    rcases hx with rfl | rfl | rfl | rfl
    · exact sc2I _
    · exact key _ (by decide) (by decide +kernel)
    all_goals exact sc2I _
  | mark t s =>
    refine ⟨⟨fun x hx => ?_, (by show 3 ≤ 100; decide)⟩, (by show 3 ≤ 5; decide)⟩
    simp only [Evt.v, List.mem_cons, List.mem_nil_iff, or_false] at hx
    rcases hx with rfl | rfl | rfl
    · exact sc2I _
    · exact key _ (by decide) (by decide +kernel)
    · exact key s h.2.1 (strOk_signs h.2.2)
theorem evs_at {G : Hp} {ps : List Addr} {es : List Evt} (h : Evs G ps (es.map Evt.v)) {i : Nat} {x : V} (hx : (ps.map V.ref)[i]? = some x) : ∃ p e, x = .ref p ∧ ps[i]? = some p ∧ es[i]? = some e ∧ G p = some (.tup e.v) := by
  have hil : i < ps.length := by
    have := (List.getElem?_eq_some_iff.mp hx).1
    rwa [List.length_map] at this
  have hl : ps.length = es.length := by rw [h.1, List.length_map]
  obtain ⟨p, xs, hp, hxs, hpx⟩ := h.at_ (i := i) (by rw [List.length_map]; omega)
  have he : es[i]? = some es[i] := List.getElem?_eq_getElem (by omega)
  rw [List.getElem?_map, he] at hxs
  cases hxs
  rw [map_ref hp] at hx
  exact ⟨p, es[i], (Option.some.inj hx).symm, hp, he, hpx⟩
theorem Evs.len {G : Hp} {ps : List Addr} {es : List Evt} (h : Evs G ps (es.map Evt.v)) : ps.length = es.length := by rw [h.1, List.length_map]
/-- is it an on or an off -/
def Evt.isKey : Evt → Bool
  | .key .. => true
  | _ => false
theorem in_onoff (e : Evt) : inV (e.v.getD 1 .non) [.str "on", .str "off"] = e.isKey := by
  cases e with
  | key b t c k f =>
    cases b
    · show inV (.str "off") [.str "on", .str "off"] = true; decide +kernel
    · show inV (.str "on") [.str "on", .str "off"] = true; decide +kernel
  | knob t c k v => show inV (.str "knob") [.str "on", .str "off"] = false; decide +kernel
  | voice t c v => show inV (.str "voice") [.str "on", .str "off"] = false; decide +kernel
  | mark t s => show inV (.str "mark") [.str "on", .str "off"] = false; decide +kernel
end Rt

set_option autoImplicit false
namespace Rt
open PySem PySem.Spec PyProof.Rows L2 RZ TL LamX
variable [TabsT]
section
variable {P : Program} {w : World} {K : PySem.W.Frag} {mg : Str → Option Value} {base : Heap} {x : Str} {k : Nat}
theorem Def.imp {sp sp' : Sp} {dvs : List V} (D : Def P w K mg base x k sp dvs) (h : ∀ vs H Q E, sp' vs H Q E → sp vs H Q E) : Def P w K mg base x k sp' dvs := by
  obtain ⟨f, fd, ps, ds, h1, h2, h3, h4, h5⟩ := D.ex
  exact ⟨f, fd, ps, ds, h1, h2.imp h, h3, h4, h5⟩
def spPick : Sp := fun vs H Q _ => ∃ (d : Addr) (m : Int) (H0 : Hp), vs = [.ref d, .int m] ∧ 0 < m ∧ m ≤ 1000000000 ∧ Ex H0 H ∧ Dr H0 H d ∧
  ∀ (r : Int) (H' : Hp), 0 ≤ r → r < m → Go (· = d) H0 H H0 H' → Dr H0 H' d → Q (.int r) H'
def spBegin (K : PySem.W.Frag) : Sp := fun vs H Q _ => ∃ (a : Addr) (ns : List Int) (H0 : Hp), vs = [.ref a] ∧ SqL K H a (ns.map V.int) ∧ Ex H0 H ∧
  ∀ (d : Addr) (H0' H' : Hp), Go (fun _ => False) H0 H H0' H' → Dr H0' H' d → H d = none → Q (.ref d) H'
def spFar : Sp := fun vs H Q _ => ∃ (d : Addr) (H0 : Hp), vs = [.ref d] ∧ Ex H0 H ∧ Dr H0 H d ∧
  ∀ (r : Int) (H0' H' : Hp), r.natAbs < 10 ^ 30 → Go (· = d) H0 H H0' H' → Dr H0' H' d → Q (.int r) H'
/-- numbers drawn -/
def rzPick : List Z → (B → Prop) → Prop := fun zs k => ∃ m, zs = [.int m] ∧ 0 < m ∧ m ≤ 1000000000 ∧ ∀ r, 0 ≤ r → r < m → k (.set (.int r))
def rzInts (lo hi : Int) : List Z → (B → Prop) → Prop := fun zs k => zs = [] ∧ ∀ r, lo ≤ r → r ≤ hi → k (.set (.int r))
def rzFar : List Z → (B → Prop) → Prop := fun zs k => zs = [] ∧ ∀ r : Int, r.natAbs < 10 ^ 30 → k (.set (.int r))
theorem zps_nil {H : Hp} {vs : List V} (h : Zps K H vs []) : vs = [] := by cases h; rfl
theorem zps_one {H : Hp} {vs : List V} {z : Z} (h : Zps K H vs [z]) : ∃ v, vs = [v] ∧ Zp K H v z := by
  cases h with
  | cons a b => cases b; exact ⟨_, rfl, a⟩
theorem pick_z (D : Def P w K mg base "_law_pick" 1 spPick) : Def P w K mg base "_law_pick" 1 (spZd K rzPick) := D.imp fun vs H Q E ⟨E0, d, ws, zs, kk, e1, h1, h2, h3, h4, ⟨m, e2, m0, m1, hk⟩, q⟩ => by
  subst e2
  obtain ⟨v, rfl, hv⟩ := zps_one h3
  have := zp_int hv
  subst this
  subst e1
  refine ⟨d, m, E0, rfl, m0, m1, h1, h4, fun r H' r0 r1 g x => ?_⟩
  obtain ⟨g1, g2, _⟩ := go_z (K := K) h2 h4 g x
  exact q _ (hk r r0 r1) _ _ _ g1 (.int r) g2
theorem ints_z {lo hi : Int} (D : Def P w K mg base x k (spInts lo hi)) : Def P w K mg base x k (spZd K (rzInts lo hi)) := D.imp fun vs H Q E ⟨E0, d, ws, zs, kk, e1, h1, h2, h3, h4, ⟨e2, hk⟩, q⟩ => by
  subst e2
  have := zps_nil h3
  subst this
  subst e1
  refine ⟨d, E0, rfl, h1, h4, fun r G' H' r0 r1 g x => ?_⟩
  obtain ⟨g1, g2, _⟩ := go_z (K := K) h2 h4 g x
  exact q _ (hk r r0 r1) _ _ _ g1 (.int r) g2
end
/-! ### events as data -/
def vZ : V → Z
  | .non => .non
  | .bl b => .bl b
  | .int i => .int i
  | .str s => .str s
  | _ => .non
def evZ (e : Evt) : Z := .tup (e.v.map vZ)
def trackZ (es : List Evt) : Z := .lst (es.map evZ)
theorem evZ_imm (e : Evt) : (evZ e).imm = true := by cases e <;> rfl
theorem evs_imm : ∀ es : List Evt, Z.imms (es.map evZ) = true
  | [] => rfl
  | e :: es => by
    show ((evZ e).imm && Z.imms (es.map evZ)) = true
    rw [evZ_imm, evs_imm es]
    rfl
theorem ev_zps {K : PySem.W.Frag} {H : Hp} (e : Evt) : Zps K H e.v (e.v.map vZ) := by
  cases e with
  | key b t c k f => exact .cons (.int _) (.cons (.str _) (.cons (.int _) (.cons (.int _) (.cons (.int _) .nil))))
  | knob t c k v => exact .cons (.int _) (.cons (.str _) (.cons (.int _) (.cons (.int _) (.cons (.int _) .nil))))
  | voice t c v => exact .cons (.int _) (.cons (.str _) (.cons (.int _) (.cons (.int _) .nil)))
  | mark t s => exact .cons (.int _) (.cons (.str _) (.cons (.str _) .nil))
theorem evs_zps {K : PySem.W.Frag} {G H : Hp} (up : ∀ b xs, G b = some (.tup xs) → H b = some (.tup xs)) : ∀ {ps : List Addr} {es : List Evt}, Evs G ps (es.map Evt.v) → Zps K H (ps.map V.ref) (es.map evZ) := by
  intro ps es h
  have key : ∀ {ps : List Addr} {es : List Evt}, ps.length = es.length → (∀ (i : Nat) (q : Addr) (e : Evt), ps[i]? = some q → es[i]? = some e → G q = some (.tup e.v)) → Zps K H (ps.map V.ref) (es.map evZ) := by
    intro ps
    induction ps with
    | nil => intro es hl _; cases es with | nil => exact .nil | cons => simp at hl
    | cons p ps ih =>
      intro es hl hh
      cases es with
      | nil => simp at hl
      | cons e es => exact .cons (.tup (up _ _ (hh 0 p e rfl rfl)) (ev_zps e)) (ih (by simpa using hl) fun i q e' h1 h2 => hh (i + 1) q e' (by simpa using h1) (by simpa using h2))
  exact key h.len fun i q e h1 h2 => h.2 i q e.v h1 (by rw [List.getElem?_map, h2]; rfl)
/-- a drawn track -/
def rzTrack : List Z → (B → Prop) → Prop := fun zs k => ∃ m : Nat, zs = [.int (m : Int)] ∧ m ≤ 1000 ∧ ∀ es : List Evt, es.length ≤ m → (∀ e ∈ es, e.Ok) → (∀ (i : Nat) (x y : Evt), es[i]? = some x → es[i + 1]? = some y → x.tick ≤ y.tick) → k (.frs (trackZ es))
section
variable {P : Program} {w : World} {K : PySem.W.Frag} {mg : Str → Option Value} {base : Heap} {x : Str} {k : Nat}
theorem track_z (D : Def P w K mg base x k spTrack) : Def P w K mg base x k (spZd K rzTrack) := D.imp fun vs H Q E ⟨E0, d, ws, zs, kk, e1, h1, h2, h3, h4, ⟨m, e2, hm, hk⟩, q⟩ => by
  subst e2
  obtain ⟨v, rfl, hv⟩ := zps_one h3
  have := zp_int hv
  subst this
  subst e1
  refine ⟨d, m, E0, rfl, hm, h1, h4, fun p ps evs G' H' g x hp hp2 hn hev hl hg hr => ?_⟩
  obtain ⟨es, rfl, hok⟩ := good_evts hg
  obtain ⟨g1, g2, g3⟩ := go_z (K := K) h2 h4 g x
  have nd : p ≠ d := fun z => by rw [z] at hp; exact h4.known hp
  -- the list is new: it is the result's own
  have gz : GoZ (frD K d E0 H) (newO p (.tmp 0) (ownG G' d)) H' := by
    refine ⟨fun b o e => ?_, g1.keep, g1.there, fun b o e h => ?_, fun b i h => ?_, fun b j h => ?_, fun b h => ?_, g1.tabs⟩
    · obtain ⟨q1, q2, q3⟩ := vw_of (g1.up b o e)
      have hb : b ≠ p := fun z => by
        have := h1 b o e
        rw [z, hp] at this
        cases this
      exact vw_at q1 q2 (q3.imp id fun c => decide_eq_true ((newO_ne hb).trans (of_decide_eq_true c)))
    · by_cases hb : b = p
      · rw [hb, newO_at] at h; cases h
      · rw [newO_ne hb] at h; exact g1.new b o e h
    · by_cases hb : b = p
      · rw [hb, newO_at] at h; cases h
      · rw [newO_ne hb] at h; exact g1.ownS b i h
    · by_cases hb : b = p
      · rw [hb]; exact hp
      · rw [newO_ne hb] at h; exact g1.ownT b j h
    · by_cases hb : b = p
      · rw [hb, newO_at] at h; cases h
      · rw [newO_ne hb] at h; exact g1.ownD b h
  refine q _ (hk es (by rw [List.length_map] at hl; exact hl) hok fun i x y e1 e2 => ?_) _ _ _ gz ?_ ?_
  · have := hr i x.v y.v (by rw [List.getElem?_map, e1]; rfl) (by rw [List.getElem?_map, e2]; rfl)
    rw [Evt.tick_v, Evt.tick_v] at this
    exact this
  · exact .lst (vw_at hp2 rfl (.inr (decide_eq_true newO_at))) (evs_zps (fun b xs e => vw_at (g.inn _ _ e) rfl (.inl rfl)) hev)
  · obtain ⟨s, a, ns, i, j, kk, l, f1, f2, f3⟩ := g2
    refine ⟨(newO_ne fun z => nd z.symm).trans s, a, ns, i, j, kk, l, f1, ?_, f3⟩
    obtain ⟨q1, q2, q3⟩ := vw_of f2
    have na : a ≠ p := fun z => by
      have := ownG_set (of_decide_eq_true (q3.elim (fun z => nomatch z) id))
      rw [z] at this
      exact this.2 hn
    exact vw_at q1 q2 (q3.imp id fun c => decide_eq_true ((newO_ne na).trans (of_decide_eq_true c)))
end
end Rt

set_option autoImplicit false
namespace Rt
open PySem PySem.Spec PyProof.Rows L2 RZ TL LamX
variable [TabsT]
/-! ### data as the library's data -/
mutual
def Z.py : Z → PyData
  | .non => .none
  | .bl b => .bool b
  | .int i => .int i
  | .str s => .str s
  | .lst l => .list (Z.pys l)
  | .tup l => .tuple (Z.pys l)
  | _ => .none
def Z.pys : List Z → List PyData
  | [] => []
  | z :: l => z.py :: Z.pys l
end
mutual
/-- none, bools, numbers, texts, lists, tuples; no list longer than 100000; texts that can stand -/
def Z.pl : Z → Bool
  | .non => true
  | .bl _ => true
  | .int _ => true
  | .str s => PyData.strOk s
  | .lst l => decide (l.length ≤ 100000) && Z.pls l
  | .tup l => decide (l.length ≤ 100000) && Z.pls l
  | _ => false
def Z.pls : List Z → Bool
  | [] => true
  | z :: l => z.pl && Z.pls l
end
mutual
def Z.dep : Z → Nat
  | .lst l => Z.deps l + 1
  | .tup l => Z.deps l + 1
  | _ => 0
def Z.deps : List Z → Nat
  | [] => 0
  | z :: l => max z.dep (Z.deps l)
end
theorem pys_len : ∀ l : List Z, (Z.pys l).length = l.length
  | [] => rfl
  | _ :: l => congrArg Nat.succ (pys_len l)
mutual
theorem Zp.dp {K : PySem.W.Frag} {H : Hp} : ∀ {z : Z} {v : V}, z.pl = true → Zp K H v z → Dp K H v z.py
  | .non, _, _, h => by cases h; exact .non
  | .bl _, _, _, h => by cases h; exact .bl _
  | .int _, _, _, h => by cases h; exact .int _
  | .str _, _, _, h => by cases h; exact .str _
  | .lst l, _, p, h => by
    have p : (decide (l.length ≤ 100000) && Z.pls l) = true := p
    rw [Bool.and_eq_true] at p
    cases h with | lst a b => exact .lst (SqL.of a) (Zps.dp p.2 b)
  | .tup l, _, p, h => by
    have p : (decide (l.length ≤ 100000) && Z.pls l) = true := p
    rw [Bool.and_eq_true] at p
    cases h with
    | tup a b => exact .tup (SqT.of a) (Zps.dp p.2 b)
    | tupK a b => exact .tup (a.elim (fun z => by rcases z with z | ⟨_, z⟩ <;> cases z) .inr) (Zps.dp p.2 b)
  | .dk _ _, _, p, _ => by cases p
  | .dt _ _, _, p, _ => by cases p
  | .obj _ _ _, _, p, _ => by cases p
theorem Zps.dp {K : PySem.W.Frag} {H : Hp} : ∀ {l : List Z} {vs : List V}, Z.pls l = true → Zps K H vs l → DpAll K H vs (Z.pys l)
  | [], _, _, h => by cases h; exact .nil
  | z :: l, _, p, h => by
    have p : (z.pl && Z.pls l) = true := p
    rw [Bool.and_eq_true] at p
    cases h with | cons a b => exact .cons (Zp.dp p.1 a) (Zps.dp p.2 b)
end
mutual
theorem pl_sm : ∀ {z : Z}, z.pl = true → smA z.py
  | .non, _ => True.intro
  | .bl _, _ => True.intro
  | .int _, _ => True.intro
  | .str _, _ => True.intro
  | .lst l, p => by
    have p : (decide (l.length ≤ 100000) && Z.pls l) = true := p
    rw [Bool.and_eq_true] at p
    exact ⟨by rw [pys_len]; exact of_decide_eq_true p.1, pls_sm p.2⟩
  | .tup l, p => by
    have p : (decide (l.length ≤ 100000) && Z.pls l) = true := p
    rw [Bool.and_eq_true] at p
    exact ⟨by rw [pys_len]; exact of_decide_eq_true p.1, pls_sm p.2⟩
  | .dk _ _, p => by cases p
  | .dt _ _, p => by cases p
  | .obj _ _ _, p => by cases p
theorem pls_sm : ∀ {l : List Z}, Z.pls l = true → smAll (Z.pys l)
  | [], _ => True.intro
  | z :: l, p => by
    have p : (z.pl && Z.pls l) = true := p
    rw [Bool.and_eq_true] at p
    exact ⟨pl_sm p.1, pls_sm p.2⟩
end
mutual
theorem dep_py : ∀ {z : Z}, z.pl = true → z.py.depth = z.dep
  | .non, _ => rfl
  | .bl _, _ => rfl
  | .int _, _ => rfl
  | .str _, _ => rfl
  | .lst l, p => by
    have p : (decide (l.length ≤ 100000) && Z.pls l) = true := p
    rw [Bool.and_eq_true] at p
    exact congrArg Nat.succ (deps_py p.2)
  | .tup l, p => by
    have p : (decide (l.length ≤ 100000) && Z.pls l) = true := p
    rw [Bool.and_eq_true] at p
    exact congrArg Nat.succ (deps_py p.2)
  | .dk _ _, p => by cases p
  | .dt _ _, p => by cases p
  | .obj _ _ _, p => by cases p
theorem deps_py : ∀ {l : List Z}, Z.pls l = true → PyData.depthAll (Z.pys l) = Z.deps l
  | [], _ => rfl
  | z :: l, p => by
    have p : (z.pl && Z.pls l) = true := p
    rw [Bool.and_eq_true] at p
    show max z.py.depth (PyData.depthAll (Z.pys l)) = _
    rw [dep_py p.1, deps_py p.2]
    rfl
end
mutual
theorem pl_lay : ∀ {z : Z}, z.pl = true → z.py.canLay0 = true
  | .non, _ => rfl
  | .bl _, _ => rfl
  | .int _, _ => rfl
  | .str _, p => p
  | .lst l, p => by
    have p : (decide (l.length ≤ 100000) && Z.pls l) = true := p
    rw [Bool.and_eq_true] at p
    exact pls_lay p.2
  | .tup l, p => by
    have p : (decide (l.length ≤ 100000) && Z.pls l) = true := p
    rw [Bool.and_eq_true] at p
    exact pls_lay p.2
  | .dk _ _, p => by cases p
  | .dt _ _, p => by cases p
  | .obj _ _ _, p => by cases p
theorem pls_lay : ∀ {l : List Z}, Z.pls l = true → PyData.canLayAll0 (Z.pys l) = true
  | [], _ => rfl
  | z :: l, p => by
    have p : (z.pl && Z.pls l) = true := p
    rw [Bool.and_eq_true] at p
    show (z.py.canLay0 && PyData.canLayAll0 (Z.pys l)) = true
    rw [pl_lay p.1, pls_lay p.2]
    rfl
end
theorem pl_shaped {z : Z} (p : z.pl = true) (d : z.dep ≤ 64) : SeqAt.shaped z.py = true := by
  show (z.py.canLay0 && decide (z.py.depth ≤ 64)) = true
  rw [pl_lay p, dep_py p, decide_eq_true d]
  rfl
theorem pl_eqv {z : Z} (p : z.pl = true) (d : z.dep ≤ 64) : PyData.eqv z.py z.py = true := SeqAt.eqv_refl _ (SeqAt.canLay_of_shaped (pl_shaped p d))
/-- how == of two data comes out -/
structure EqD (a b : Z) (c : Bool) : Prop where
  p1 : a.pl = true
  p2 : b.pl = true
  d1 : a.dep ≤ 64
  d2 : b.dep ≤ 64
  e : PyData.eqv a.py b.py = c
theorem EqD.rfl {z : Z} (p : z.pl = true) (d : z.dep ≤ 64) : EqD z z true := ⟨p, p, d, d, pl_eqv p d⟩
theorem EqD.of {a b : Z} (h : a = b) (p : a.pl = true) (d : a.dep ≤ 64) : EqD a b true := h ▸ EqD.rfl p d
theorem EqD.nil {l : List Z} (p : (Z.lst l).pl = true) (d : (Z.lst l).dep ≤ 64) : EqD (.lst l) (.lst []) (decide (l = [])) := ⟨p, by decide, d, by decide, by cases l <;> rfl⟩
def zEqD (f : Bool → Bool) : B → B → (B → Prop) → Prop := fun b1 b2 k => match b1.z, b2.z with
  | some x, some y => ∃ c, EqD x y c ∧ k (.set (.bl (f c)))
  | _, _ => False
section
variable {fr : Fr} {F F' : Hp} {Γ : G} {T A : List (V × B)} {σ : L2.St} {H H' : Hp} {S S' : Addr → Own}
theorem s_eqD : SO2 fr (rEqD fr.K) (zEqD id) := by
  intro F Γ T σ H Q k v1 v2 b1 b2 R kq h
  unfold zEqD at h
  split at h
  · rename_i x y e1 e2
    obtain ⟨c, E, h⟩ := h
    refine ⟨x.py, y.py, Zp.dp E.p1 (R.zp (j := 0) rfl e1), Zp.dp E.p2 (R.zp (j := 1) rfl e2), pl_shaped E.p1 E.d1, pl_shaped E.p2 E.d2, ?_⟩
    rw [E.e]
    exact kq _ h _ H (R.sc fun _ => .bl _)
  · exact h.elim
theorem s_neD : SO2 fr (rNeD fr.K) (zEqD not) := by
  intro F Γ T σ H Q k v1 v2 b1 b2 R kq h
  unfold zEqD at h
  split at h
  · rename_i x y e1 e2
    obtain ⟨c, E, h⟩ := h
    refine ⟨x.py, y.py, Zp.dp E.p1 (R.zp (j := 0) rfl e1), Zp.dp E.p2 (R.zp (j := 1) rfl e2), pl_shaped E.p1 E.d1, pl_shaped E.p2 E.d2, ?_⟩
    rw [E.e]
    exact kq _ h _ H (R.sc fun _ => .bl _)
  · exact h.elim
/-! ### a thing that is turned and not asked any more -/
/-- its list at w -/
theorem RelS.wild (R : RelS fr F Γ T σ H S) {p : Addr} {vs ws : List V} {i : Nat} {s : Sh} (hp : H p = some (.lst vs)) (hs : S p = .slot i) (hw : ∀ v, σ[i]? = some (some v) → ShP fr.K (vw S H (eqO (.slot i))) v s) (he : ∃ b, Γ[i]? = some (some b)) : Rel fr F (Γ.set i (some (.wld s.wk))) [] σ (upd H p (.lst ws)) := by
  have M := R.mut (o' := .lst ws) hp rfl rfl lst_no hs (fun z => nomatch z) (fun z => nomatch z) (fun z => nomatch z)
  refine ⟨S, M.go, M.f, by rw [List.length_set]; exact R.len, fun j b e => ?_, fun j v b e => by simp at e, fun j b e => ?_⟩
  · rcases slot_set e with ⟨rfl, rfl, hl⟩ | ⟨hj, e⟩
    · obtain ⟨b, hb⟩ := he
      obtain ⟨v, g1, _⟩ := R.sl j b hb
      refine ⟨v, g1, ShP.wk (fun x xs ex => ?_) (fun x xs ex => ?_) (hw v g1)⟩
      · obtain ⟨q1, q2, q3⟩ := vw_of ex
        by_cases hx : x = p
        · subst hx
          exact ⟨ws, vw_at upd_same rfl (.inr (decide_eq_true hs))⟩
        · exact ⟨xs, vw_at ((upd_ne hx).trans q1) rfl q3⟩
      · obtain ⟨q1, q2, q3⟩ := vw_of ex
        have hx : x ≠ p := fun z => by rw [z, hp] at q1; cases q1
        exact vw_at ((upd_ne hx).trans q1) rfl (.inl rfl)
    · obtain ⟨v, g1, g2⟩ := R.sl j b e
      exact ⟨v, g1, M.b _ v b g2 (fun z => hj (by cases z; rfl)) (fun st is z eb => by have := R.nb j b e; rw [eb] at this; cases this) fun i s eb => by have := R.nb j b e; rw [eb] at this; cases this⟩
  · rcases slot_set e with ⟨_, e, _⟩ | ⟨_, e⟩
    · rw [e]; rfl
    · exact R.nb j b e
mutual
theorem zp_sh {K : PySem.W.Frag} {H : Hp} : ∀ {z : Z} {v : V}, Zp K H v z → ShP K H v z.sh
  | .non, _, _ => True.intro
  | .bl _, _, _ => True.intro
  | .int _, _, _ => True.intro
  | .str _, _, _ => True.intro
  | .lst l, _, h => by cases h with | lst a b => exact ⟨_, _, rfl, a, Nat.le_of_eq b.len⟩
  | .tup l, _, h => by
    cases h with
    | tup a b => exact ⟨_, _, rfl, .inl a, zps_sh b⟩
    | tupK a b => exact ⟨_, _, rfl, .inr a, zps_sh b⟩
  | .dk _ _, _, _ => True.intro
  | .dt _ _, _, _ => True.intro
  | .obj _ _ _, _, _ => True.intro
theorem zps_sh {K : PySem.W.Frag} {H : Hp} : ∀ {l : List Z} {vs : List V}, Zps K H vs l → ShPs K H vs (Z.shs l)
  | [], _, h => by cases h; exact True.intro
  | z :: l, _, h => by cases h with | cons a b => exact ⟨zp_sh a, zps_sh b⟩
end
/-- the way to a thing that is turned: its list's owner, and what is left of its root -/
def SRv (fr : Fr) (i : Nat) (t : TE) (z : G → (Sh → Sh → Prop) → Prop) : Prop := ∀ (F : Hp) (Γ : G) (σ : L2.St) (H : Hp) (Q : VK) (k : Sh → Sh → Prop) (S : Addr → Own), RelS fr F Γ [] σ H S →
  (∀ s r, k s r → ∀ v, ShP fr.K (vw S H (eqO (.slot i))) v s → (∀ w, σ[i]? = some (some w) → ShP fr.K (vw S H (eqO (.slot i))) w r) → (∃ b, Γ[i]? = some (some b)) → Q v H) → z Γ k → t σ H Q
def zRoot (i : Nat) : G → (Sh → Sh → Prop) → Prop := fun Γ k => match Γ[i]? with
  | some (some (.frs z)) => k z.sh z.sh
  | some (some (.wld s)) => k s s
  | some (some (.own (.lst l))) => k (.lstB l.length) (.lstB l.length)
  | _ => False
theorem zr_root (i : Nat) : SRv fr i (tVar i) (zRoot i) := by
  intro F Γ σ H Q k S R kq q
  unfold zRoot at q
  split at q
  · rename_i z e
    obtain ⟨v, h1, h2⟩ := R.sl i _ e
    exact ⟨v, h1, kq _ _ q v (zp_sh h2) (fun w hw => by rw [h1] at hw; cases hw; exact zp_sh h2) ⟨_, e⟩⟩
  · rename_i s e
    obtain ⟨v, h1, h2⟩ := R.sl i _ e
    exact ⟨v, h1, kq _ _ q v h2 (fun w hw => by rw [h1] at hw; cases hw; exact h2) ⟨_, e⟩⟩
  · rename_i l e
    obtain ⟨v, h1, a, vs, rfl, h2, h3, h4⟩ := R.sl i _ e
    have p : ShP fr.K (vw S H (eqO (.slot i))) (.ref a) (.lstB l.length) := ⟨a, vs, rfl, vw_at h3 rfl (.inr (decide_eq_true h2)), Nat.le_of_eq h4.len⟩
    exact ⟨_, h1, kq _ _ q _ p (fun w hw => by rw [h1] at hw; cases hw; exact p) ⟨_, e⟩⟩
  · exact q.elim
def zPart (n : Nat) (z : G → (Sh → Sh → Prop) → Prop) : G → (Sh → Sh → Prop) → Prop := fun Γ k => z Γ fun s r => match s with
  | .tup l => ∃ s, l[n]? = some s ∧ k s r
  | _ => False
theorem shs_at {K : PySem.W.Frag} {H : Hp} : ∀ {l : List Sh} {vs : List V} {n : Nat} {s : Sh}, ShPs K H vs l → l[n]? = some s → ∃ v, vs[n]? = some v ∧ ShP K H v s
  | [], _, _, _, _, e => by simp at e
  | s :: l, v :: vs, 0, _, h, e => by cases e; exact ⟨v, rfl, h.1⟩
  | s :: l, v :: vs, n + 1, _, h, e => by
    obtain ⟨w, h1, h2⟩ := shs_at (n := n) h.2 (by simpa using e)
    exact ⟨w, by simpa using h1, h2⟩
  | _ :: _, [], _, _, h, _ => h.elim
theorem zr_part {i n : Nat} {t : TE} {z : G → (Sh → Sh → Prop) → Prop} (h : SRv fr i t z) : SRv fr i (tOp (rIxT fr.K) t (tC (.int (n : Nat)))) (zPart n z) := by
  intro F Γ σ H Q k S R kq q
  refine h F Γ σ H _ _ S R (fun s r hs v p root he => ?_) q
  split at hs
  · rename_i l
    obtain ⟨s, h1, h2⟩ := hs
    obtain ⟨a, vs, rfl, h3, h4⟩ := p
    obtain ⟨w, h5, h6⟩ := shs_at h4 h1
    exact ⟨a, vs, _, w, rfl, rfl, h3.elim (fun z => SqT.of (vw_ex _ _ z)) (fun z => z.elim (fun z => by rcases z with z | ⟨_, z⟩ <;> cases z) .inr), atI_nat h5, kq _ _ h2 w h6 root he⟩
  · exact hs.elim
/-- x[..].clear(), where x is not asked any more -/
def zClr (i : Nat) (z : G → (Sh → Sh → Prop) → Prop) : ZS := fun D Γ => z Γ fun s r => match s with
  | .lst => D.nx (Γ.set i (some (.wld r.wk)))
  | .lstB _ => D.nx (Γ.set i (some (.wld r.wk)))
  | _ => False
theorem sh_lst {K : PySem.W.Frag} {v : V} {i : Nat} {s : Sh} (p : ShP K (vw S H (eqO (.slot i))) v s) (h : s = .lst ∨ ∃ n, s = .lstB n) : ∃ a vs, v = .ref a ∧ H a = some (.lst vs) ∧ S a = .slot i ∧ ∀ n, s = .lstB n → vs.length ≤ n := by
  have key : ∀ {a : Addr} {vs : List V}, vw S H (eqO (.slot i)) a = some (.lst vs) → H a = some (.lst vs) ∧ S a = .slot i := fun h => by
    obtain ⟨q1, q2, q3⟩ := vw_of h
    exact ⟨q1, q3.elim (fun z => nomatch z) fun z => of_decide_eq_true z⟩
  rcases h with rfl | ⟨n, rfl⟩
  · obtain ⟨a, vs, rfl, h⟩ := p
    exact ⟨a, vs, rfl, (key h).1, (key h).2, fun _ z => nomatch z⟩
  · obtain ⟨a, vs, rfl, h, l⟩ := p
    exact ⟨a, vs, rfl, (key h).1, (key h).2, fun _ z => by cases z; exact l⟩
theorem z_clr {i : Nat} {t : TE} {z : G → (Sh → Sh → Prop) → Prop} (h : SRv fr i t z) : SS fr (tDrop (tBM0 fr.K "list" rClear t)) (zClr i z) := by
  intro F Γ σ H zD D R hD q
  obtain ⟨S, R⟩ := R
  refine h F Γ σ H _ _ S R (fun s r hs v p root he => ?_) q
  have key : (s = .lst ∨ ∃ n, s = .lstB n) → zD.nx (Γ.set i (some (.wld r.wk))) → tyV fr.K "list" v H ∧ rClear v [] H fun _ H1 => D.nx σ H1 := fun hs hn => by
    obtain ⟨a, vs, rfl, q1, ow, _⟩ := sh_lst p hs
    exact ⟨.inl ⟨rfl, vs, SqL.of q1⟩, a, vs, rfl, rfl, q1, hD.nx _ _ _ (R.wild q1 ow root he) hn⟩
  split at hs
  · exact key (.inl rfl) hs
  · exact key (.inr ⟨_, rfl⟩) hs
  · exact hs.elim
/-- x[..].append(c), where x is not asked any more; c a constant -/
def zApC (i : Nat) (z : G → (Sh → Sh → Prop) → Prop) : ZS := fun D Γ => z Γ fun s r => match s with
  | .lstB n => n < 1000000 ∧ D.nx (Γ.set i (some (.wld r.wk)))
  | _ => False
theorem z_apC {i : Nat} {c : V} {t : TE} {z : G → (Sh → Sh → Prop) → Prop} (h : SRv fr i t z) : SS fr (tDrop (tBM fr.K "list" rAppend t (tCons (tC c) tNil))) (zApC i z) := by
  intro F Γ σ H zD D R hD q
  obtain ⟨S, R⟩ := R
  refine h F Γ σ H _ _ S R (fun s r hs v p root he => ?_) q
  split at hs
  · rename_i n
    obtain ⟨a, vs, rfl, q1, ow, hl⟩ := sh_lst p (.inr ⟨n, rfl⟩)
    have := hl n rfl
    exact ⟨.inl ⟨rfl, vs, SqL.of q1⟩, a, vs, c, rfl, rfl, q1, mem_lt (by omega), hD.nx _ _ _ (R.wild q1 ow root he) hs.2⟩
  · exact hs.elim
/-- x[..].append((c, d)), x not asked any more -/
theorem z_apT {i : Nat} {t : TE} {z : G → (Sh → Sh → Prop) → Prop} (h : SRv fr i t z) (c d : V) : SS fr (tDrop (tBM fr.K "list" rAppend t (tCons (tTup (tCons (tC c) (tCons (tC d) tNil))) tNil))) (zApC i z) := by
  intro F Γ σ H zD D R hD q
  obtain ⟨S, R⟩ := R
  refine h F Γ σ H _ _ S R (fun s r hs v p root he => ?_) q
  split at hs
  · rename_i n
    obtain ⟨a, vs, rfl, q1, ow, hl⟩ := sh_lst p (.inr ⟨n, rfl⟩)
    have := hl n rfl
    refine ⟨.inl ⟨rfl, vs, SqL.of q1⟩, (by show 2 ≤ sizeLine; decide), fun x hx => ?_⟩
    have ne : a ≠ x := ne_of_none q1 hx
    refine ⟨a, vs, .ref x, rfl, rfl, (upd_ne ne).trans q1, mem_lt (by omega), ?_⟩
    have R2 := hD.nx _ _ _ (R.wild q1 ow root he (ws := vs ++ [.ref x])) hs.2
    have R1 : RelS fr F Γ [] σ (upd H x (.tup [c, d])) (newO x .set (retm 0 .set S)) := by
      have := R.alloc (T := []) (A := []) hx (o := .tup [c, d]) (w := .set) (u := .set) (.inl rfl) (.inl rfl) (b := .dead) True.intro
      exact ⟨this.go, this.f, this.len, this.sl, fun j v b e => by simp at e, this.nb⟩
    have sh : ∀ {v s}, ShP fr.K (vw S H (eqO (.slot i))) v s → ShP fr.K (vw (newO x .set (retm 0 .set S)) (upd H x (.tup [c, d])) (eqO (.slot i))) v s := fun p => ShP.up (fun b vs e => by
        obtain ⟨e1, e2, e3⟩ := vw_of e
        have nb : b ≠ x := ne_of_none e1 hx
        exact vw_at ((upd_ne nb).trans e1) e2 (e3.imp id fun c => decide_eq_true ((newO_ne nb).trans (retm_slot (of_decide_eq_true c))))) (fun b vs e => vw_at ((upd_ne (ne_of_none (vw_of e).1 hx)).trans (vw_of e).1) rfl (.inl rfl)) p
    exact hD.nx _ _ _ (R1.wild ((upd_ne ne).trans q1) ((newO_ne ne).trans (retm_slot ow)) (fun w hw => sh (root w hw)) he) hs.2
  · exact hs.elim
end
end Rt

set_option autoImplicit false
namespace Rt
open PySem PySem.Spec PyProof.Rows L2 RZ TL LamX
variable [TabsT]
section
variable {fr : Fr} {F F' : Hp} {Γ : G} {T A : List (V × B)} {σ : L2.St} {H H' : Hp} {S S' : Addr → Own}
/-! ### tuples of targets -/
abbrev ZGs := List Z → G → (G → Prop) → Prop
def SGs (fr : Fr) (g : TGs) (z : ZGs) : Prop := ∀ (F : Hp) (Γ : G) (T : List (V × B)) (σ : L2.St) (H : Hp) (vs : List V) (zs : List Z) (Q : L2.St → Hp → Prop) (k : G → Prop), Rel fr F Γ T σ H → Zps fr.K F vs zs → (∀ Γ', k Γ' → ∀ σ' H', Rel fr F Γ' T σ' H' → Q σ' H') → z zs Γ k → g vs σ H Q
def zgNil : ZGs := fun zs Γ k => match zs with
  | [] => k Γ
  | _ => False
def zgCons (t : ZG) (u : ZGs) : ZGs := fun zs Γ k => match zs with
  | z :: r => t (.set z) Γ fun Γ' => u r Γ' k
  | _ => False
theorem zg_nil : SGs fr gNil zgNil := by
  intro F Γ T σ H vs zs Q k R hz kq q
  cases hz with
  | nil => exact ⟨rfl, kq _ q _ _ R⟩
  | cons _ _ => exact q.elim
theorem zg_cons {t : TG} {u : TGs} {zt : ZG} {zu : ZGs} (h1 : SG fr t zt) (h2 : SGs fr u zu) : SGs fr (gCons t u) (zgCons zt zu) := by
  intro F Γ T σ H vs zs Q k R hz kq q
  cases hz with
  | nil => exact q.elim
  | cons a b =>
    refine ⟨_, _, rfl, h1 F Γ T σ H _ _ _ _ (Rel.push (A := []) (by rw [List.append_nil]; exact R) a) (fun Γ' q' σ' H' R' => ?_) q⟩
    exact h2 F Γ' T σ' H' _ _ Q k R' b kq q'
def zgTup (n : Nat) (g : ZGs) : ZG := fun b Γ k => b.tk fun z => match z with
  | .tup l => l.length = n ∧ g l Γ k
  | _ => False
theorem zg_tup {n : Nat} {t : TGs} {zt : ZGs} (h : SGs fr t zt) : SG fr (gTup fr.K n t) (zgTup n zt) := by
  intro F Γ T σ H v b Q k R kq q
  obtain ⟨z, hz, R1⟩ := R.tk q
  split at hz
  · rename_i l
    obtain ⟨F', h1, R2, h3⟩ := R1.low
    obtain ⟨a, vs, rfl, h4, h5⟩ := zp_tup h3
    exact ⟨a, vs, rfl, sqt_le h4 R2.le, by rw [h5.len]; exact hz.1, h F' Γ T σ H vs l Q k R2 h5 (fun Γ' q' σ' H' R' => kq _ q' _ _ (R'.weak h1)) hz.2⟩
  · exact hz.elim
theorem z_par {i j : Nat} {t : TA} {z : ZA} (h : SA fr 2 t z) : SS fr (tPar i j t) (zPar i j z) := by
  intro F Γ σ H zD D R hD q
  refine h F Γ [] σ H _ _ R (fun bs hb A H1 e1 e2 R1 => ?_) q
  unfold zPar at q
  split at hb
  · rename_i b c
    obtain ⟨v, w, rfl⟩ := two_args e1.symm
    refine ⟨v, w, rfl, ?_⟩
    obtain ⟨S, Rs⟩ := R1
    obtain ⟨p1, p2⟩ := Rel.two (T := []) Rs
    obtain ⟨x, hx, g1⟩ := P_tk p1 hb
    obtain ⟨y, hy, g2⟩ := P_tk p2 hx
    have k1 := g1 (retm 0 .set S) H1 (fun _ _ e _ => e) (fun _ _ c => retm_set c) (fun _ _ c => retm_hi (Nat.le_refl _) c)
    have k2 := g2 (retm 0 .set S) H1 (fun _ _ e _ => e) (fun _ _ c => retm_set c) (fun _ _ c => retm_hi (by omega) c)
    have R2 := RelS.retm (T := []) Rs
    have R3 : Rel fr (vw (retm 0 .set S) H1 (eqO .set)) Γ [] σ H1 := ⟨_, R2.go, fun _ _ e => e, R2.len, R2.sl, R2.tm, R2.nb⟩
    have R4 := (Rel.push (T := []) (A := []) R3 k1).store i rfl
    have R5 := (Rel.push (T := []) (A := []) R4 k2).store j rfl
    exact hD.nx _ _ _ (R5.weak R2.f) hy
  · exact hb.elim
theorem z_aug {i : Nat} {t : TE} {z : ZE} {f : Int → Int → Int} (h : SE fr t z) : SS fr (tAug i t (ipI f)) (zAug i z f) := by
  intro F Γ σ H zD D R hD q
  unfold zAug at q
  split at q
  · rename_i x he
    obtain ⟨v, hv, ev⟩ : ∃ v, σ[i]? = some (some v) ∧ v = .int x := by
      obtain ⟨S, R⟩ := R
      obtain ⟨v, h1, h2⟩ := R.sl i _ he
      exact ⟨v, h1, zp_int h2⟩
    subst ev
    refine ⟨_, hv, ?_⟩
    refine h F Γ [] σ H _ _ R (fun b hb w H1 R1 => ?_) q
    split at hb
    · rename_i y
      have := zp_int (Rel.zp (T := []) R1 (j := 0) rfl rfl)
      subst this
      exact ⟨x, y, rfl, rfl, hD.nx _ _ _ ((Rel.sc (T := []) R1 fun _ => .int _).store i rfl) hb⟩
    · exact hb.elim
  · exact q.elim
/-- a thing of one's own is settled -/
def G.frz (Γ : G) (i : Nat) : G := match Γ[i]? with
  | some (some (.own z)) => Γ.set i (some (.set z))
  | some (some (.frs z)) => Γ.set i (some (.set z))
  | some (some (.two r)) => Γ.set i (some (.set r.z))
  | _ => Γ
end
/-! ### the law's own helpers -/
/-- both stand for the same datum d, at most n deep -/
def spSame (K : PySem.W.Frag) (n : Nat) : Sp := fun vs H Q _ => ∃ (v u : V) (d : PyData) (H0 : Hp), vs = [v, u] ∧ Ex H0 H ∧ Dp K H v d ∧ Dp K H u d ∧ d.depth ≤ n ∧ smA d ∧ ∀ H', Go (fun _ => False) H0 H H0 H' → Q (.bl true) H'
def rzSame (n : Nat) : RZs := fun zs k _ => ∃ a : Z, zs = [a, a] ∧ a.pl = true ∧ a.dep ≤ n ∧ k (.set (.bl true))
section
variable {P : Program} {w : World} {K : PySem.W.Frag} {mg : Str → Option Value} {base : Heap} {x : Str} {k : Nat}
theorem go_p {E0 H H' : Hp} (nt : NtT E0 H) (h0 : Le E0 H) (g : Go (fun _ => False) E0 H E0 H') : GoZ (frP K E0 H) (ownE E0 none) H' := by
  refine ⟨fun b o e => vw_at (g.inn b o e) (nt.nt b o e) (.inr (decide_eq_true (ownE_at (show E0 b ≠ none from fun z => by have e : E0 b = some o := e; rw [z] at e; cases e) fun z => nomatch z))), fun b o e _ n => g.keep b o e n, g.there, fun b o e h => .inl (ownE_set h), fun b i h => absurd h (ownE_no.1 i), fun b j h => absurd h (ownE_no.2 j), fun b h => ?_, nt.tabs.ext fun b o e => g.keep b o e fun z => z⟩
  unfold ownE at h
  split at h
  · rename_i c
    cases c
  · split at h <;> cases h
theorem same_z {n : Nat} (D : Def P w K mg base x k (spSame K n)) : Def P w K mg base x k (spZ K mg (rzSame n)) := D.imp fun vs H Q E ⟨E0, zs, kk, e, h0, nt, hz, ⟨a, e1, p, d, hk⟩, q, _⟩ => by
  subst e1
  obtain ⟨v, u, rfl, hv, hu⟩ : ∃ v u, vs = [v, u] ∧ Zp K E0 v a ∧ Zp K E0 u a := by
    cases hz with
    | cons a b => cases b with | cons b c => cases c; exact ⟨_, _, rfl, a, b⟩
  refine ⟨v, u, a.py, E0, rfl, h0, Zp.dp p (hv.up h0), Zp.dp p (hu.up h0), by rw [dep_py p]; exact d, pl_sm p, fun H' g => ?_⟩
  exact q _ hk _ _ ⟨_, go_p nt h0 g, .bl true⟩
end
def spLawT (K : PySem.W.Frag) : Sp := fun vs H Q _ => ∃ (a : Addr) (ns : List Int), vs = [.ref a] ∧ SqL K H a (ns.map V.int) ∧ Tabs TabsT.T H ∧ ∀ H', Q (.bl true) H'
theorem law_reads {n : Nat} {K : PySem.W.Frag} {N : List Str} {t : TS} {z : ZS} {vs : List V} {H : Hp} {Q : VK} {E : XK} (h : spLawT K vs H Q E) (hN : N.length = n + 2) (hz : SS (frL K) t z) (hb : ∀ d, z zEndL (some .dead :: some (.drw d) :: List.replicate n none)) :
    (tSeq (tAsg (tCall (spBegin K) [] E0 (tCons (tVar 0) tNil)) (gName 1)) t) { nx := fun _ H' => Q .non H', rt := Q } (L2.start N vs) H := by
  obtain ⟨a, ns, rfl, hS, hT, q⟩ := h
  have e0 : L2.start N [.ref a] = some (.ref a) :: none :: List.replicate n none := by
    unfold L2.start
    rw [hN]
    rfl
  rw [e0]
  refine ⟨_, rfl, a, ns, fun _ => none, rfl, hS, (fun b o z => by cases z), fun d H0 H1 g hD _ => ?_⟩
  have hT := hT.ext fun b o h => g.keep b o h fun z => z
  exact hz (fun _ => none) _ _ _ zEndL _ (law_rel hD g.inn hT) ⟨fun _ _ _ _ q => q.elim, fun _ _ _ _ q => q.elim, fun _ _ _ _ q => q.elim, fun Γ v b σ H' R' e => by
    have e : b = .set (.bl true) := e
    subst e
    rw [zp_bl (Rel.zp (T := []) R' (j := 0) rfl rfl)]
    exact q _⟩ (hb d)
theorem ev_pl {e : Evt} (h : e.Ok) : (evZ e).pl = true ∧ (evZ e).dep = 1 := by
  cases e with
  | key b t c k f =>
    refine ⟨?_, rfl⟩
    show (decide (5 ≤ 100000) && (true && (PyData.strOk (onW b) && (true && (true && (true && true)))))) = true
    rw [(onW_ok b).1]
    rfl
  | knob t c k v =>
    refine ⟨?_, rfl⟩
    show (decide (5 ≤ 100000) && (true && (PyData.strOk "knob" && (true && (true && (true && true)))))) = true
    rw [show PyData.strOk "knob" = true by decide +kernel]
    rfl
  | voice t c v =>
    refine ⟨?_, rfl⟩
    show (decide (4 ≤ 100000) && (true && (PyData.strOk "voice" && (true && (true && true))))) = true
    rw [show PyData.strOk "voice" = true by decide +kernel]
    rfl
  | mark t s =>
    refine ⟨?_, rfl⟩
    show (decide (3 ≤ 100000) && (true && (PyData.strOk "mark" && (PyData.strOk s && true)))) = true
    rw [show PyData.strOk "mark" = true by decide +kernel, strOk_signs h.2.2]
    rfl
theorem track_pl {es : List Evt} (h : ∀ e ∈ es, e.Ok) (hl : es.length ≤ 10000) : (trackZ es).pl = true ∧ (trackZ es).dep ≤ 2 := by
  have key : ∀ es : List Evt, (∀ e ∈ es, e.Ok) → Z.pls (es.map evZ) = true ∧ Z.deps (es.map evZ) ≤ 1 := by
    intro es
    induction es with
    | nil => intro _; exact ⟨rfl, Nat.zero_le _⟩
    | cons e es ih =>
      intro h
      obtain ⟨h1, h2⟩ := ih fun x hx => h x (.tail _ hx)
      have he := ev_pl (h e (.head _))
      refine ⟨?_, ?_⟩
      · show ((evZ e).pl && Z.pls (es.map evZ)) = true
        rw [he.1, h1]
        rfl
      · show max (evZ e).dep (Z.deps (es.map evZ)) ≤ 1
        omega
  obtain ⟨h1, h2⟩ := key es h
  refine ⟨?_, ?_⟩
  · show (decide ((es.map evZ).length ≤ 100000) && Z.pls (es.map evZ)) = true
    rw [h1, List.length_map, decide_eq_true (by omega)]
    rfl
  · show Z.deps (es.map evZ) + 1 ≤ 2
    omega
theorem pair_pl {a b : Z} {n : Nat} (ha : a.pl = true ∧ a.dep ≤ n) (hb : b.pl = true ∧ b.dep ≤ n) : (Z.tup [a, b]).pl = true ∧ (Z.tup [a, b]).dep ≤ n + 1 := by
  refine ⟨?_, ?_⟩
  · show (decide (2 ≤ 100000) && (a.pl && (b.pl && true))) = true
    rw [ha.1, hb.1]
    rfl
  · show max a.dep (max b.dep 0) + 1 ≤ n + 1
    omega
end Rt

set_option autoImplicit false
namespace Rt
open PySem PySem.Spec PyProof.Rows L2 RZ TL LamX
variable [TabsT]
/-! ### errors, raised -/
theorem GoZ.grown {K : PySem.W.Frag} {E0 H H' : Hp} {S : Addr → Own} (g : GoZ (frP K E0 H) S H') : Grown H H' := ⟨fun b o e t => g.keep b o e t fun z => z, g.there, g.tabs⟩
/-- an error's class with its __init__ that is handed a place -/
structure ErrAZ (P : Program) (w : World) (K : PySem.W.Frag) (mg : Str → Option Value) (base : Heap) (k : Nat) (x word : Str) (tape : Bool) : Prop where
  ex : ∃ (C CT fI : Addr) (z : Str) (fd : FuncData), Err K mg x C z word ∧ PySem.W.findIn K (.ref C) "__init__" = some (some (.ref fI)) ∧ PySem.W.typeIn K (.ref fI) = some (.type "function") ∧
    FnOk P w K mg base CX0 k fI fd ["self", "at"] (spInitAt K) ∧ Binds K fd ["self", "at"] [] ∧ XfC K C ∧ PySem.W.findIn K (.ref C) "at" = some none ∧
    mg "TapeError" = some (.ref CT) ∧ PySem.W.exmOne K (.ref C) (.ref CT) = some tape ∧ (tape = false → ∃ CM : Addr, mg "MissingError" = some (.ref CM) ∧ PySem.W.exmOne K (.ref C) (.ref CM) = some true)
def tRaiseZ (K : PySem.W.Frag) (mg : Str → Option Value) (e : Ez) (W : WX) (ta : TA) : TS := fun _ σ H => ta σ H fun vs H1 => ∃ why, vs = [why] ∧ ∀ cls d H', RaisedZ K mg e H1 cls d H' → W cls d σ H'
def tRaiseZA (K : PySem.W.Frag) (mg : Str → Option Value) (x word : Str) (tape : Bool) (W : WX) (ta : TA) : TS := fun _ σ H => ta σ H fun vs H1 => ∃ n : Int, vs = [.int n] ∧ n.natAbs < 10 ^ 20 ∧ ∀ cls d H', RaisedZ K mg ⟨x, word, tape, [("at", n)]⟩ H1 cls d H' → W cls d σ H'
section
variable {X : Cx} {x word : Str} {tape : Bool} {k : Nat} {e : Expr} {es : List Expr} {ta : TA} {W : WX} {p pos pos2 : Pos}
theorem ps_raiseZ (hc : X.calm = true) (T : ErrK X.prog X.w X.K X.mg X.base k x word tape) (hr : Room (k + 1) X.A) (tk : Takes X W) (hg : Gl X x) (ha : PA X (e :: es) ta) (hdb : (x == ("__debug__" : Str)) = false := by decide)
    (he : starEach (e :: es) X.env = (false, eval e X.env) :: starEach es X.env := by rfl) (hpl : (backTo pos (starEach es X.env)).any (·.1) = false := by rfl) :
    PS X (.Raise (some (.Call (.Name x p) (e :: es) [] pos)) none pos2) (tRaiseZ X.K X.mg ⟨x, word, tape, []⟩ W ta) := by
  obtain ⟨C, CT, CM, fI, z, fd, R, iC, tI, F1, hb, xf, g1, g2, m1, m2⟩ := T.ex
  have mk := pmk_oex (X := X) (CX := CX0) (p := p) (pos := pos) R.oex iC tI F1 hr hb .nil pass0 hg R.g (pa_up ha) hdb he hpl
  have rs := ps_raise (pos := pos2) hc tk mk
  refine ⟨fun pins s σ H D I h => rs.run pins s σ H D I ?_⟩
  have imp : ∀ (vs : List V) (H1 : Hp), (∃ why, vs = [why] ∧ ∀ cls d H', RaisedZ X.K X.mg ⟨x, word, tape, []⟩ H1 cls d H' → W cls d σ H') →
      vs.length ≤ 1000 ∧ ∀ a, H1 a = none → spInit X.K (.ref a :: (vs ++ [])) (upd H1 a (exo a C none))
        (fun v H2 => v = .non ∧ ∃ (d : Addr) (fs : List (Str × V)), H2 a = some (exo a C (some d)) ∧ H2 d = some (exd d fs) ∧ H1 d = none ∧ W (.ref C) (some d) σ (upd (del H2 a) d (.xd fs))) (fun _ _ _ => False) := by
    rintro vs H1 ⟨why, rfl, q⟩
    refine ⟨(by show 1 ≤ 1000; decide), fun a ha => ⟨a, C, why, z, rfl, R.oex, R.cls, R.nmd, R.nc, R.sz, upd_same, fun dx hdx nda => ⟨rfl, dx, [("called", .str (Txt.lower z))], upd_same, ?_, ?_, ?_⟩⟩⟩
    · rw [upd_ne nda, upd_same]
    · rw [upd_ne nda] at hdx
      exact hdx
    · rw [upd_ne nda] at hdx
      refine q _ _ _ ⟨C, CT, dx, R.g, rfl, rfl, hdx, ?_, xf, R.nc, (fun p h => nomatch h), g1, m1, (fun e => ⟨CM, g2, m2 e⟩), rfl⟩
      funext b
      show _ = upd H1 dx (.xd [("called", .str word)]) b
      by_cases e1 : b = dx
      · rw [e1, upd_same, upd_same, R.low]
      · rw [upd_ne e1, upd_ne e1]
        by_cases e2 : b = a
        · rw [e2, del_same, ha]
        · rw [del_ne e2, upd_ne e2, upd_ne e1, upd_ne e2]
  exact ⟨_, h, imp⟩
theorem ps_raiseZA (hc : X.calm = true) (T : ErrAZ X.prog X.w X.K X.mg X.base k x word tape) (hr : Room (k + 1) X.A) (tk : Takes X W) (hg : Gl X x) (ha : PA X (e :: es) ta) (hdb : (x == ("__debug__" : Str)) = false := by decide)
    (he : starEach (e :: es) X.env = (false, eval e X.env) :: starEach es X.env := by rfl) (hpl : (backTo pos (starEach es X.env)).any (·.1) = false := by rfl) :
    PS X (.Raise (some (.Call (.Name x p) (e :: es) [] pos)) none pos2) (tRaiseZA X.K X.mg x word tape W ta) := by
  obtain ⟨C, CT, fI, z, fd, R, iC, tI, F1, hb, xf, na, g1, m1, m2⟩ := T.ex
  have mk := pmk_oex (X := X) (CX := CX0) (p := p) (pos := pos) R.oex iC tI F1 hr hb .nil pass0 hg R.g (pa_up ha) hdb he hpl
  have rs := ps_raise (pos := pos2) hc tk mk
  refine ⟨fun pins s σ H D I h => rs.run pins s σ H D I ?_⟩
  have imp : ∀ (vs : List V) (H1 : Hp), (∃ n : Int, vs = [.int n] ∧ n.natAbs < 10 ^ 20 ∧ ∀ cls d H', RaisedZ X.K X.mg ⟨x, word, tape, [("at", n)]⟩ H1 cls d H' → W cls d σ H') →
      vs.length ≤ 1000 ∧ ∀ a, H1 a = none → spInitAt X.K (.ref a :: (vs ++ [])) (upd H1 a (exo a C none))
        (fun v H2 => v = .non ∧ ∃ (d : Addr) (fs : List (Str × V)), H2 a = some (exo a C (some d)) ∧ H2 d = some (exd d fs) ∧ H1 d = none ∧ W (.ref C) (some d) σ (upd (del H2 a) d (.xd fs))) (fun _ _ _ => False) := by
    rintro vs H1 ⟨n, rfl, hn, q⟩
    refine ⟨(by show 1 ≤ 1000; decide), fun a ha => ⟨a, C, n, z, rfl, hn, R.oex, R.cls, R.nmd, R.nc, na, R.sz, upd_same, fun dx hdx nda => ⟨rfl, dx, [("at", .int n), ("called", .str (Txt.lower z))], ?_, upd_same, ?_, ?_⟩⟩⟩
    · rw [upd_ne nda.symm, upd_same]
    · rw [upd_ne nda] at hdx
      exact hdx
    · rw [upd_ne nda] at hdx
      refine q _ _ _ ⟨C, CT, dx, R.g, rfl, rfl, hdx, ?_, xf, R.nc, (fun p h => by rw [List.mem_singleton.mp h]; exact na), g1, m1, m2, rfl⟩
      funext b
      show _ = upd H1 dx (.xd [("at", .int n), ("called", .str word)]) b
      by_cases e1 : b = dx
      · rw [e1, upd_same, upd_same, R.low]
      · rw [upd_ne e1, upd_ne e1]
        by_cases e2 : b = a
        · rw [e2, del_same, ha]
        · rw [del_ne e2, upd_ne e1, upd_ne e2, upd_ne e1, upd_ne e2]
  exact ⟨_, h, imp⟩
end
/-! ### readings of what may raise -/
section
variable {fr : Fr} {F F' : Hp} {Γ : G} {T A : List (V × B)} {σ : L2.St} {H H' : Hp} {S S' : Addr → Own} {mg : Str → Option Value}
/-- more objects, of nobody -/
theorem Rel.grown (R : Rel fr F Γ T σ H) (g : Grown H H') : Rel fr F Γ T σ H' := by
  obtain ⟨S, R⟩ := R
  have h := g.k
  have R0 : RelS fr F Γ (T ++ []) σ H S := by rw [List.append_nil]; exact R
  let S' : Addr → Own := fun x => if H x = none then .out else S x
  have so : ∀ x, H x ≠ none → S' x = S x := fun x h => if_neg h
  have sn : ∀ x, H x = none → S' x = .out := fun x h => if_pos h
  have hne : ∀ {b}, fr.E b ≠ none → H b ≠ none := fun e => R.go.there _ e
  refine Rel.drop ⟨S', R0.ext (v := .non) (b := .dead) ⟨fun x o e => vw_le (fun x o e t c => ⟨h x o e t, c.imp id fun c => decide_eq_true ((so x (by rw [e]; simp)).trans (of_decide_eq_true c))⟩) x o (R.go.up x o e), fun b o e t n => h b o (R.go.keep b o e t n) t, fun b e => g.th b (hne e), fun b o e z => ?_, fun b i z => ?_, fun b j z => ?_, fun b z => ?_, g.tabs⟩
    (fun x o e t => h x o e t) (fun x e c => (so x e).trans c) (fun x e c => (so x e).trans c) (fun x i e c => (so x e).trans c) (fun x j e _ c => (so x e).trans c) True.intro⟩
  · rw [so b (hne (by rw [e]; simp))] at z
    exact R.go.new b o e z
  · by_cases c : H b = none
    · rw [sn b c] at z; cases z
    · rw [so b c] at z; exact R.go.ownS b i z
  · by_cases c : H b = none
    · rw [sn b c] at z; cases z
    · rw [so b c] at z; exact R.go.ownT b j z
  · by_cases c : H b = none
    · rw [sn b c] at z; cases z
    · rw [so b c] at z; exact R.go.ownD b z
theorem Rel.tabs (R : Rel fr F Γ T σ H) : Tabs TabsT.T H := let ⟨_, R⟩ := R; R.go.tabs
theorem Rel.grow (R : Rel fr F Γ T σ H) (h : ∀ b o, H b = some o → H' b = some o) : Rel fr F Γ T σ H' :=
  R.grown ⟨fun b o e _ => h b o e, fun b n => by
    cases q : H b with
    | none => exact absurd q n
    | some o => rw [h b o q]; simp, R.tabs.ext h⟩
/-- what is wished of an error at these slots -/
def Wish (fr : Fr) (mg : Str → Option Value) (Ed : Ez → Prop) (F : Hp) (Γ : G) (T : List (V × B)) (σ : L2.St) (E : XK) : Prop := ∀ x, Ed x → ∀ Hb cls d H', Rel fr F Γ T σ Hb → RaisedZ fr.K mg x Hb cls d H' → E cls d H'
/-- a call, wherever it stands -/
theorem run_call {R : RZs} {n : Nat} {t : TA} {za : ZA} {dvs : List V} {dz : List Z} {Q : VK} {k : B → Prop} {Ed : Ez → Prop} {E : XK} (ha : SA fr n t za) (hd : Zps fr.K (fun _ => none) dvs dz) (R0 : Rel fr F Γ T σ H)
    (kq : ∀ b, k b → ∀ v H', Rel fr F Γ (T ++ [(v, b)]) σ H' → Q v H') (hE : Wish fr mg Ed F Γ T σ E) (q : zCall R dz Ed za Γ k) : t σ H fun vs H1 => spZ fr.K mg R (vs ++ dvs) H1 Q E := by
  refine ha F Γ T σ H _ _ R0 (fun bs hb A H1 e1 e2 R1 => ?_) q
  have R1' := R1
  obtain ⟨S, R1⟩ := R1
  subst e1
  obtain ⟨zs, hk, hz⟩ := zrd_ok R1 (A1 := []) (A2 := A) rfl hb
  refine ⟨vw S H1 allO, zs ++ dz, resB k, Ed, vw_ex, ⟨noTb_vw, R1.go.tabs⟩, zps_app hz (hd.up fun b o e => by cases e), hk, fun b hb v H' ⟨S', g', hp⟩ => ?_, fun x hx Hb cls d H' kp r => ?_⟩
  · obtain ⟨c, h1, h2⟩ := P_res (S := S) (n := T.length) g' hp hb
    exact kq _ h1 v H' ⟨_, R1.call (b := b) g' h2⟩
  · exact hE x hx Hb cls d H' ((Rel.drop R1').grown kp) r
theorem run_callS {R : RZs} {n : Nat} {t : TA} {za : ZA} {dvs : List V} {dz : List Z} {Q : VK} {k : B → Prop} {Ed : Ez → Prop} {E : XK} (ha : SA fr n t za) (hd : Zps fr.K (fun _ => none) dvs dz) (R0 : Rel fr F Γ T σ H)
    (kq : ∀ b, k b → ∀ v H', Rel fr F Γ (T ++ [(v, b)]) σ H' → Q v H') (hE : Wish fr mg Ed F Γ T σ E) (q : zCallS R dz Ed za Γ k) : t σ H fun vs H1 => spZ fr.K mg R (vs ++ dvs) H1 Q E := by
  refine ha F Γ T σ H _ _ R0 (fun bs hb A H1 e1 e2 R1 => ?_) q
  have R1' := R1
  obtain ⟨S, R1⟩ := R1
  subst e1
  obtain ⟨zs, hk, hz⟩ := tks_ok R1 rfl (A1 := []) (A2 := A) rfl hb
  have hz := hz (retm T.length .set S) H1 (fun _ _ e _ => e) fun _ _ => rfl
  have R2 := R1.retm
  refine ⟨vw (retm T.length .set S) H1 (eqO .set), zs ++ dz, resS k, Ed, vw_ex, ⟨noTb_vw, R1.go.tabs⟩, zps_app hz (hd.up fun b o e => by cases e), hk, fun b hb v H' ⟨S', g', hp⟩ => ?_, fun x hx Hb cls d H' kp r => ?_⟩
  · obtain ⟨c, h1, h2⟩ := P_resS (S := retm T.length .set S) (n := T.length) rfl g' hp hb
    exact kq _ h1 v H' ⟨_, RelS.call (A := []) (b := b) (by rw [List.append_nil]; exact R2) g' h2⟩
  · exact hE x hx Hb cls d H' ((Rel.drop R1').grown kp) r
/-- a def's body: W is what it may let out -/
def WishW (fr : Fr) (mg : Str → Option Value) (Ed : Ez → Prop) (W : WX) : Prop := ∀ F Γ T σ, Wish fr mg Ed F Γ T σ (WE W σ)
theorem z_callX {W : WX} {Ed : Ez → Prop} (hW : WishW fr mg Ed W) {R : RZs} {n : Nat} {t : TA} {za : ZA} (ha : SA fr n t za) : SE fr (tCallS (spZ fr.K mg R) (WE W) t) (zCall R [] Ed za) := fun F Γ T σ H Q k R0 kq q => by
  have := run_call (dvs := []) (dz := []) ha .nil R0 kq (hW F Γ T σ) q
  simp only [List.append_nil] at this
  exact this
theorem z_callXS {W : WX} {Ed : Ez → Prop} (hW : WishW fr mg Ed W) {R : RZs} {n : Nat} {t : TA} {za : ZA} (ha : SA fr n t za) : SE fr (tCallS (spZ fr.K mg R) (WE W) t) (zCallS R [] Ed za) := fun F Γ T σ H Q k R0 kq q => by
  have := run_callS (dvs := []) (dz := []) ha .nil R0 kq (hW F Γ T σ) q
  simp only [List.append_nil] at this
  exact this
theorem z_callXD {W : WX} {Ed : Ez → Prop} (hW : WishW fr mg Ed W) {R : RZs} {n : Nat} {t : TA} {za : ZA} {dvs : List V} {dz : List Z} (ha : SA fr n t za) (hd : Zps fr.K (fun _ => none) dvs dz) : SE fr (tCallSD (spZ fr.K mg R) dvs (WE W) t) (zCall R dz Ed za) := fun F Γ T σ H Q k R0 kq q =>
  run_call ha hd R0 kq (hW F Γ T σ) q
/-- raise X(why) -/
def zRaise (x : Ez) (Ed : Ez → Prop) (za : ZA) : ZS := fun _ Γ => za Γ fun _ => Ed x
theorem z_raise {W : WX} {Ed : Ez → Prop} (hW : WishW fr mg Ed W) {x : Ez} {t : TA} {za : ZA} (ha : SA fr 1 t za) : SS fr (tRaiseZ fr.K mg x W t) (zRaise x Ed za) := by
  intro F Γ σ H zD D R hD q
  refine ha F Γ [] σ H _ _ R (fun bs hb A H1 e1 e2 R1 => ?_) q
  obtain ⟨p, rfl⟩ : ∃ p, A = [p] := by
    match A, e2 with
    | [p], _ => exact ⟨p, rfl⟩
  exact ⟨_, rfl, fun cls d H' r => hW F Γ [] σ x hb H1 cls d H' R1.nil r⟩
def zRaiseA (x word : Str) (tape : Bool) (Ed : Ez → Prop) (za : ZA) : ZS := fun _ Γ => za Γ fun bs => match bs with
  | [.set (.int n)] => n.natAbs < 10 ^ 20 ∧ Ed ⟨x, word, tape, [("at", n)]⟩
  | _ => False
theorem z_raiseA {W : WX} {Ed : Ez → Prop} (hW : WishW fr mg Ed W) {x word : Str} {tape : Bool} {t : TA} {za : ZA} (ha : SA fr 1 t za) : SS fr (tRaiseZA fr.K mg x word tape W t) (zRaiseA x word tape Ed za) := by
  intro F Γ σ H zD D R hD q
  refine ha F Γ [] σ H _ _ R (fun bs hb A H1 e1 e2 R1 => ?_) q
  split at hb
  · rename_i n
    obtain ⟨v, rfl⟩ := one_arg e1.symm
    have := zp_int (Rel.zp (T := []) R1 (j := 0) rfl rfl)
    subst this
    exact ⟨n, rfl, hb.1, fun cls d H' r => hW F Γ [] σ _ hb.2 H1 cls d H' R1.nil r⟩
  · exact hb.elim
end
section
variable {P : Program} {w : World} {K : PySem.W.Frag} {mg : Str → Option Value} {base : Heap} {x qual : Str} {st : Stmt} {f : Addr} {fd : FuncData} {N ps : List Str} {k : Nat}
/-- a def that may raise -/
theorem okZX {R : RZs} (F : Fun K x qual st f fd) (S : FnScope N ps (defScope st)) (hlen : ∀ zs k e, R zs k e → zs.length = ps.length)
    (hbody : ∀ (cdv : Value) (A : Around) (outer : List Env) (s : Shared) (H E0 : Hp) (E : XK) (Ed : Ez → Prop), Room k (A.deeper (envOfC qual (defScope st) s.heap.objs.size f cdv)) → WishW (frP K E0 H) mg Ed (fun cls d _ H => E cls d H) →
      ∃ t z, PSs (cxOf (L2.CX P w) P w K mg base N qual (defScope st) f cdv A outer s H E) (defBody st) t ∧ SS (frP K E0 H) t z ∧ ∀ zs k, R zs k Ed → z (zEnd k) (startG N (zs.map B.set))) : FnOk P w K mg base (L2.CX P w) (k + 1) f fd ps (spZ K mg R) := by
  refine F.okX S (fun vs H Q E h => ?_) (fun cdv A outer s H vs Q E hr h => ?_)
  · obtain ⟨E0, zs, k, e, h1, h2, h3, h4, _⟩ := h
    rw [h3.len]
    exact hlen zs k e h4
  · obtain ⟨E0, zs, kk, e, h1, h2, h3, h4, h5, h6⟩ := h
    have hW : WishW (frP K E0 H) mg e (fun cls d _ H => E cls d H) := fun F Γ T σ x hx Hb cls d H' ⟨S, R⟩ r => h6 x hx Hb cls d H' R.go.grown r
    obtain ⟨t, z, ht, hz, hb⟩ := hbody cdv A outer s H E0 E e hr hW
    refine ⟨t, ht, hz (fun _ => none) _ _ _ (zEnd kk) _ (start_rel h1 h2 h3) ⟨fun Γ σ H' R' q => ?_, fun _ _ _ _ q => q.elim, fun _ _ _ _ q => q.elim, fun Γ v b σ H' R' q => ?_⟩ (hb zs kk h4)⟩
    · obtain ⟨S, R'⟩ := R'
      exact h5 _ q _ _ ⟨S, R'.go, .non⟩
    · obtain ⟨c, c1, c2⟩ := q
      obtain ⟨S, g1, g2, _⟩ := Rel.ret R' c1 fun S R x i h => (R.go.ownS x i h).elim id fun z => z.elim
      exact h5 c c2 _ _ ⟨S, g1, g2⟩
end
end Rt

set_option autoImplicit false
namespace Rt
open PySem PySem.Spec PyProof.Rows L2 RZ TL LamX
variable [TabsT]
/-! ### a lambda that is asked, its errors told by their words -/
def TTriedZ (K : PySem.W.Frag) (mg : Str → Option Value) : (XK → Hp → VK → Prop) → Hp → VK → Prop := fun tl H Q =>
  tl (fun cls d H' => ∃ (x : Ez) (Hb : Hp), RaisedZ K mg x Hb cls d H' ∧ ∀ p, H' p = none → Q (.ref p) (upd H' p (.tup [.non, .str x.word]))) H
    (fun v H' => ∀ p, H' p = none → Q (.ref p) (upd H' p (.tup [v, .str ""])))
section
variable {fr : Fr} {F F' : Hp} {Γ : G} {T A : List (V × B)} {σ : L2.St} {H H' : Hp} {S S' : Addr → Own} {mg : Str → Option Value}
def SEX (fr : Fr) (mg : Str → Option Value) (t : XK → TE) (z : (Ez → Prop) → ZE) : Prop := ∀ (F : Hp) (Γ : G) (T : List (V × B)) (σ : L2.St) (H : Hp) (Q : VK) (k : B → Prop) (E : XK) (Ed : Ez → Prop), Rel fr F Γ T σ H → (∀ b, k b → ∀ v H', Rel fr F Γ (T ++ [(v, b)]) σ H' → Q v H') → Wish fr mg Ed F Γ T σ E → z Ed Γ k → t E σ H Q
theorem sx_call {R : RZs} {n : Nat} {t : TA} {za : ZA} (ha : SA fr n t za) : SEX fr mg (fun E => tCallS (spZ fr.K mg R) (fun _ => E) t) (fun Ed => zCall R [] Ed za) := fun F Γ T σ H Q k E Ed R0 kq hE q => by
  have := run_call (dvs := []) (dz := []) ha .nil R0 kq hE q
  simp only [List.append_nil] at this
  exact this
theorem sx_callS {R : RZs} {n : Nat} {t : TA} {za : ZA} (ha : SA fr n t za) : SEX fr mg (fun E => tCallS (spZ fr.K mg R) (fun _ => E) t) (fun Ed => zCallS R [] Ed za) := fun F Γ T σ H Q k E Ed R0 kq hE q => by
  have := run_callS (dvs := []) (dz := []) ha .nil R0 kq hE q
  simp only [List.append_nil] at this
  exact this
theorem sx_callD {R : RZs} {n : Nat} {t : TA} {za : ZA} {dvs : List V} {dz : List Z} (ha : SA fr n t za) (hd : Zps fr.K (fun _ => none) dvs dz) : SEX fr mg (fun E => tCallSD (spZ fr.K mg R) dvs (fun _ => E) t) (fun Ed => zCall R dz Ed za) := fun F Γ T σ H Q k E Ed R0 kq hE q =>
  run_call ha hd R0 kq hE q
/-- what raises nothing -/
theorem sx_of {t : TE} {z : ZE} (h : SE fr t z) : SEX fr mg (fun _ => t) (fun _ => z) := fun F Γ T σ H Q k E Ed R0 kq hE q => h F Γ T σ H Q k R0 kq q
/-- tables may grow -/
theorem Rel.extN {K : PySem.W.Frag} (R : Rel (frL K) F Γ T σ H) (e : ExtN H H') (ht : Tabs TabsT.T H') : Rel (frL K) F Γ T σ H' := by
  obtain ⟨S, R⟩ := R
  have kp : ∀ x o, H x = some o → isTbl o = false → H' x = some o := fun x o h n => e x o h fun ps z => by rw [z] at n; cases n
  let S' : Addr → Own := fun x => if H x = none then .out else S x
  have so : ∀ x, H x ≠ none → S' x = S x := fun x h => if_neg h
  refine ⟨S', ⟨(fun b o e => nomatch e), (fun b o e _ _ => nomatch e), fun b h => absurd rfl h, (fun b o e => nomatch e), fun b i h => .inl rfl, fun b j h => rfl, fun b h => .inl rfl, ht⟩, fun x o h => ?_, R.len, fun i b h => ?_, fun j v b h => ?_, R.nb⟩
  · exact vw_le (fun x o e n c => ⟨kp x o e n, c.imp id fun c => decide_eq_true ((so x (by rw [e]; simp)).trans (of_decide_eq_true c))⟩) x o (R.f x o h)
  · obtain ⟨v, h1, h2⟩ := R.sl i b h
    exact ⟨v, h1, h2.move (fun x o e n _ => kp x o e n) (fun x e c => (so x e).trans c) (fun x e c => (so x e).trans c) (fun x e c => (so x e).trans c) (fun st is z _ i _ x e c => .inl ((so x e).trans c)) fun i s _ x e c => (so x e).trans c⟩
  · exact (R.tm j v b h).move (fun x o e n _ => kp x o e n) (fun x e c => (so x e).trans c) (fun x e c => (so x e).trans c) (fun x e c => (so x e).trans c) (fun st is z _ i _ x e c => .inl ((so x e).trans c)) fun i s _ x e c => (so x e).trans c
/-- with the empty word -/
def pairR (k : B → Prop) : B → Prop
  | .set z => k (.set (.tup [z, .str ""]))
  | .frs z => k (.frs (.tup [z, .str ""]))
  | .two r => k (.set (.tup [r.z, .str ""]))
  | .own z => k (.set (.tup [z, .str ""]))
  | _ => False
theorem Rel.pairS {v : V} {z : Z} (R : Rel fr F Γ (T ++ [(v, B.set z)]) σ H) {p : Addr} (hp : H p = none) : Rel fr F Γ (T ++ [(.ref p, .set (.tup [z, .str ""]))]) σ (upd H p (.tup [v, .str ""])) :=
  Rel.newT R hp fun S R S' H' hk hS => .cons ((show Zp fr.K (vw S H (eqO .set)) v z from fstP R).up (vw_le fun x o e n c => ⟨hk x o e n, c.imp id fun c => decide_eq_true ((hS x (by rw [e]; simp)).trans (retm_set (of_decide_eq_true c)))⟩)) (.cons (.str _) .nil)
theorem Rel.pair {v : V} {b : B} {k : B → Prop} (R : Rel fr F Γ (T ++ [(v, b)]) σ H) (q : pairR k b) {p : Addr} (hp : H p = none) : ∃ c, k c ∧ Rel fr F Γ (T ++ [(.ref p, c)]) σ (upd H p (.tup [v, .str ""])) := by
  cases b with
  | set z =>
    refine ⟨_, q, Rel.newT R hp fun S R S' H' hk hS => .cons ?_ (.cons (.str _) .nil)⟩
    have hv : Zp fr.K (vw S H (eqO .set)) v z := fstP R
    exact hv.up (vw_le fun x o e n c => ⟨hk x o e n, c.imp id fun c => decide_eq_true ((hS x (by rw [e]; simp)).trans (retm_set (of_decide_eq_true c)))⟩)
  | frs z =>
    obtain ⟨S, R⟩ := R
    have hv : Zp fr.K (vw S H (eqO (.tmp T.length))) v z := fstP R
    have hS : ∀ x, H x ≠ none → newO p (.tmp T.length) (retm T.length (.tmp T.length) S) x = retm T.length (.tmp T.length) S x := fun x h => newO_ne fun z => h (z ▸ hp)
    refine ⟨_, q, _, R.alloc hp (.inr rfl) (.inr rfl) (b := .frs (.tup [z, .str ""])) (.tup (vw_at upd_same rfl (.inl rfl)) (.cons ?_ (.cons (.str _) .nil)))⟩
    exact hv.up (vw_le fun x o e n c => ⟨(upd_ne (ne_of_none e hp)).trans e, c.imp id fun c => decide_eq_true ((hS x (by rw [e]; simp)).trans (retm_hi (Nat.le_refl _) (of_decide_eq_true c)))⟩)
  | two r => exact ⟨_, q, (R.settle rfl).pairS hp⟩
  | own z => exact ⟨_, q, (R.settle rfl).pairS hp⟩
  | _ => exact q.elim
def zTried (z : (Ez → Prop) → ZE) : ZE := fun Γ k => z (fun x => k (.set (.tup [.non, .str x.word]))) Γ (pairR k)
theorem z_tried {K : PySem.W.Frag} {t : XK → TE} {z : (Ez → Prop) → ZE} (h : SEX (frL K) mg t z) : SE (frL K) (tUpE (tLam TabsT.T (TTriedZ K mg) t)) (zTried z) := by
  intro F Γ T σ H Q k R kq q
  refine ⟨fun v H1 => ∃ b, k b ∧ Rel (frL K) F Γ (T ++ [(v, b)]) σ H1, ⟨?_, fun H1 eN hT1 => ?_⟩, fun v H1 ⟨b, hb, R'⟩ => kq b hb v H1 R'⟩
  · obtain ⟨S, R⟩ := R
    exact R.go.tabs
  · have R1 := R.extN eN hT1
    refine h F Γ T σ H1 _ _ _ _ R1 (fun b hb v H2 R2 p hp => ?_) (fun x hx Hb cls d H2 Rb r => ⟨x, Hb, r, fun p hp => ?_⟩) q
    · obtain ⟨c, hc, R3⟩ := Rel.pair R2 hb hp
      exact ⟨c, hc, R3⟩
    · have hr := r
      obtain ⟨C, CT, dd, _, _, _, hdd, e, _⟩ := hr
      have R3 : Rel (frL K) F Γ T σ H2 := Rb.grow fun b o h => by rw [e, upd_ne (ne_of_none h hdd)]; exact h
      exact ⟨_, hx, Rel.newT (A := []) (by rw [List.append_nil]; exact R3) hp fun _ _ _ _ _ _ => .cons .non (.cons (.str _) .nil)⟩
end
end Rt

set_option autoImplicit false
namespace Rt
open PySem PySem.Spec PyProof.Rows L2 RZ TL LamX
variable [TabsT]
section
variable {fr : Fr} {F F' : Hp} {Γ : G} {T A : List (V × B)} {σ : L2.St} {H H' : Hp} {S S' : Addr → Own} {mg : Str → Option Value}
/-! ### texts put together; only their sizes are told -/
def SJ (fr : Fr) (t : TE) (z : G → (Nat → Prop) → Prop) : Prop := ∀ (F : Hp) (Γ : G) (T : List (V × B)) (σ : L2.St) (H : Hp) (Q : VK) (k : Nat → Prop), Rel fr F Γ T σ H → (∀ n, k n → ∀ (y : Str) H', y.length ≤ n → Rel fr F Γ T σ H' → Q (.str y) H') → z Γ k → t σ H Q
def zJs : G → (Nat → Prop) → Prop := fun _ k => k 1000
theorem j_str {s : Str} (h : s.length ≤ 1000 := by decide +kernel) : SJ fr (tC (.str s)) zJs := fun F Γ T σ H Q k R kq q => kq _ q s H h R
def zJf (z : ZE) : G → (Nat → Prop) → Prop := fun Γ k => z Γ fun b => match b with
  | .set (.int i) => i.natAbs < 10 ^ 40 ∧ k 2000
  | .set (.str y) => y.length ≤ 100000 ∧ k 100000
  | _ => False
theorem j_fmt {t : TE} {z : ZE} (h : SE fr t z) : SJ fr (tFmt t) (zJf z) := fun F Γ T σ H Q k R kq q => h F Γ T σ H _ _ R (fun b hb v H1 R1 => by
  split at hb
  · rename_i i
    have := zp_int (Rel.zp R1 (j := 0) rfl rfl)
    subst this
    refine .inr ⟨i, rfl, log_small hb.1, kq _ hb.2 _ _ ?_ R1.drop⟩
    have h2 := PyProof.Rows.int_text_len_1921 (log_small hb.1)
    have : (PySem.Str.ofString (toString i)).length ≤ 1921 := h2
    exact Nat.le_trans this (by decide)
  · rename_i y
    have := zp_str (Rel.zp R1 (j := 0) rfl rfl)
    subst this
    exact .inl ⟨y, rfl, mem_sz (Nat.le_trans hb.1 (by decide)), kq _ hb.2 _ _ hb.1 R1.drop⟩
  · exact hb.elim) q
inductive SJs (fr : Fr) : List TE → List (G → (Nat → Prop) → Prop) → Prop
  | nil : SJs fr [] []
  | cons {t : TE} {ts : List TE} {z : G → (Nat → Prop) → Prop} {zs : List (G → (Nat → Prop) → Prop)} (h : SJ fr t z) (r : SJs fr ts zs) : SJs fr (t :: ts) (z :: zs)
def zJoin : List (G → (Nat → Prop) → Prop) → G → Nat → Prop → Prop
  | [], _, _, K => K
  | z :: zs, Γ, m, K => z Γ fun n => m + n ≤ 1000000 ∧ zJoin zs Γ (m + n) K
theorem js_run {ts : List TE} {zs : List (G → (Nat → Prop) → Prop)} (h : SJs fr ts zs) : ∀ (acc : Str) (m : Nat) (H : Hp) (Q : Str → Hp → Prop) (K : Prop), acc.length ≤ m → Rel fr F Γ T σ H → (K → ∀ y H', Rel fr F Γ T σ H' → Q y H') → zJoin zs Γ m K → tJs ts acc σ H Q := by
  induction h with
  | nil => intro acc m H Q K hm R kq q; exact kq q _ _ R
  | cons h r ih =>
    intro acc m H Q K hm R kq q
    refine h F Γ T σ H _ _ R (fun n hn y H1 hy R1 => ?_) q
    have hl : (acc ++ y).length ≤ m + n := by rw [str_len]; omega
    exact ⟨y, rfl, mem_sz (Nat.le_trans hl hn.1), ih _ _ H1 Q K hl R1 kq hn.2⟩
def zJoined (zs : List (G → (Nat → Prop) → Prop)) : ZE := fun Γ k => zJoin zs Γ 0 (∀ y : Str, k (.set (.str y)))
theorem z_joined {ts : List TE} {zs : List (G → (Nat → Prop) → Prop)} (h : SJs fr ts zs) : SE fr (fun σ H Q => tJs ts Str.empty σ H fun out H1 => Q (.str out) H1) (zJoined zs) := fun F Γ T σ H Q k R kq q =>
  js_run h Str.empty 0 H _ _ (Nat.le_refl _) R (fun hk y H' R' => kq _ (hk y) _ _ (Rel.sc (A := []) (by rw [List.append_nil]; exact R') fun _ => .str _)) q
/-! ### further builtins -/
def zMin2 : List B → (B → Prop) → Prop := fun bs k => match bs with
  | [.set (.int i), .set (.int j)] => k (.set (.int (if j < i then j else i)))
  | _ => False
def zMax2 : List B → (B → Prop) → Prop := fun bs k => match bs with
  | [.set (.int i), .set (.int j)] => k (.set (.int (if j > i then j else i)))
  | _ => False
theorem s_min2 : SCB fr (fun xs H Q => ∃ i j, xs = [.int i, .int j] ∧ Q (.int (if j < i then j else i)) H) zMin2 := by
  intro F Γ T A σ H Q k R kq h
  unfold zMin2 at h
  split at h
  · rename_i i j e
    obtain ⟨v, w, rfl⟩ := two_args e.symm
    have h1 := zp_int (R.zp (j := 0) rfl rfl)
    have h2 := zp_int (R.zp (j := 1) rfl rfl)
    subst h1
    subst h2
    exact ⟨i, j, rfl, kq _ h _ H (R.sc fun _ => .int _)⟩
  · exact h.elim
theorem s_max2 : SCB fr (fun xs H Q => ∃ i j, xs = [.int i, .int j] ∧ Q (.int (if j > i then j else i)) H) zMax2 := by
  intro F Γ T A σ H Q k R kq h
  unfold zMax2 at h
  split at h
  · rename_i i j e
    obtain ⟨v, w, rfl⟩ := two_args e.symm
    have h1 := zp_int (R.zp (j := 0) rfl rfl)
    have h2 := zp_int (R.zp (j := 1) rfl rfl)
    subst h1
    subst h2
    exact ⟨i, j, rfl, kq _ h _ H (R.sc fun _ => .int _)⟩
  · exact h.elim
def zAbs : List B → (B → Prop) → Prop := fun bs k => match bs with
  | [.set (.int i)] => k (.set (.int (if i < 0 then -i else i)))
  | _ => False
theorem s_abs : SCB fr (fun xs H Q => ∃ i, xs = [.int i] ∧ Q (.int (if i < 0 then -i else i)) H) zAbs := by
  intro F Γ T A σ H Q k R kq h
  unfold zAbs at h
  split at h
  · rename_i i e
    obtain ⟨v, rfl⟩ := one_arg e.symm
    have h1 := zp_int (R.zp (j := 0) rfl rfl)
    subst h1
    exact ⟨i, rfl, kq _ h _ H (R.sc fun _ => .int _)⟩
  · exact h.elim
/-- lists of numbers, of bools -/
def intsZ (l : List Int) : List Z := l.map Z.int
def blsZ (l : List Bool) : List Z := l.map Z.bl
theorem zps_ints {K : PySem.W.Frag} {H : Hp} : ∀ {l : List Int} {vs : List V}, Zps K H vs (intsZ l) → vs = l.map V.int
  | [], _, h => by cases h; rfl
  | i :: l, _, h => by
    cases h with
    | cons a b => rw [zp_int a, zps_ints b]; rfl
theorem zps_bls {K : PySem.W.Frag} {H : Hp} : ∀ {l : List Bool} {vs : List V}, Zps K H vs (blsZ l) → vs = l.map V.bl
  | [], _, h => by cases h; rfl
  | i :: l, _, h => by
    cases h with
    | cons a b => rw [zp_bl a, zps_bls b]; rfl
theorem zps_of_ints {K : PySem.W.Frag} {H : Hp} : ∀ l : List Int, Zps K H (l.map V.int) (intsZ l)
  | [] => .nil
  | i :: l => .cons (.int i) (zps_of_ints l)
def zAll (f : List Bool → Bool) : List B → (B → Prop) → Prop := fun bs k => match bs with
  | [b] => ∃ l : List Bool, b.z = some (.lst (blsZ l)) ∧ k (.set (.bl (f l)))
  | _ => False
theorem s_all : SCB fr (rAll fr.K) (zAll fun l => l.all id) := by
  intro F Γ T A σ H Q k R kq h
  unfold zAll at h
  split at h
  · rename_i b e
    obtain ⟨v, rfl⟩ := one_arg e.symm
    obtain ⟨l, e1, h⟩ := h
    obtain ⟨a, vs, rfl, h1, h2⟩ := zp_lst (R.zp (j := 0) rfl e1)
    rw [zps_bls h2] at h1
    exact ⟨a, l, rfl, SqL.of h1, kq _ h _ H (R.sc fun _ => .bl _)⟩
  · exact h.elim
theorem s_any : SCB fr (rAny fr.K) (zAll fun l => l.any id) := by
  intro F Γ T A σ H Q k R kq h
  unfold zAll at h
  split at h
  · rename_i b e
    obtain ⟨v, rfl⟩ := one_arg e.symm
    obtain ⟨l, e1, h⟩ := h
    obtain ⟨a, vs, rfl, h1, h2⟩ := zp_lst (R.zp (j := 0) rfl e1)
    rw [zps_bls h2] at h1
    exact ⟨a, l, rfl, SqL.of h1, kq _ h _ H (R.sc fun _ => .bl _)⟩
  · exact h.elim
def zSum : List B → (B → Prop) → Prop := fun bs k => match bs with
  | [b] => ∃ l : List Int, b.z = some (.lst (intsZ l)) ∧ k (.set (.int l.sum))
  | _ => False
theorem s_sum : SCB fr (rSum fr.K) zSum := by
  intro F Γ T A σ H Q k R kq h
  unfold zSum at h
  split at h
  · rename_i b e
    obtain ⟨v, rfl⟩ := one_arg e.symm
    obtain ⟨l, e1, h⟩ := h
    obtain ⟨a, vs, rfl, h1, h2⟩ := zp_lst (R.zp (j := 0) rfl e1)
    rw [zps_ints h2] at h1
    exact ⟨a, l, rfl, SqL.of h1, kq _ h _ H (R.sc fun _ => .int _)⟩
  · exact h.elim
/-- sorted, of numbers -/
def zSorted : List B → (B → Prop) → Prop := fun bs k => match bs with
  | [b] => ∃ l : List Int, b.z = some (.lst (intsZ l)) ∧ ∀ m : List Int, m.Perm l → m.Pairwise (· ≤ ·) → k (.own (.lst (intsZ m)))
  | _ => False
theorem s_sorted : SCB fr (rSortedI fr.K) zSorted := by
  intro F Γ T A σ H Q k R kq h
  unfold zSorted at h
  split at h
  · rename_i b e
    obtain ⟨v, rfl⟩ := one_arg e.symm
    obtain ⟨l, e1, h⟩ := h
    obtain ⟨a, vs, rfl, h1, h2⟩ := zp_lst (R.zp (j := 0) rfl e1)
    rw [zps_ints h2] at h1
    exact ⟨a, l, rfl, SqL.of h1, fun m p h3 h4 hp => kq _ (h m h3 h4) _ _ (R.newL hp fun _ _ _ _ _ _ => zps_of_ints m)⟩
  · exact h.elim
end
/-! ### the law's drawing helpers -/
def rzOne : List Z → (B → Prop) → Prop := fun zs k => ∃ l : List Z, zs = [.lst l] ∧ 0 < l.length ∧ l.length ≤ 1000000000 ∧ ∀ (i : Nat) (z : Z), l[i]? = some z → k (.set z)
def spOne : Sp := fun vs H Q _ => ∃ (d p : Addr) (xs : List V) (H0 : Hp), vs = [.ref d, .ref p] ∧ Ex H0 H ∧ Dr H0 H d ∧ H0 p = some (.lst xs) ∧ 0 < xs.length ∧ xs.length ≤ 1000000000 ∧
  ∀ (i : Nat) (v : V) (H' : Hp), xs[i]? = some v → Go (· = d) H0 H H0 H' → Dr H0 H' d → Q v H'
def spWithin : Sp := fun vs H Q _ => ∃ (x : V) (lo hi : Int), vs = [x, .int lo, .int hi] ∧ Scal x ∧ Q (.bl (withinV x lo hi)) H
def rzWithin : RZs := fun zs k _ => ∃ x lo hi : Int, zs = [.int x, .int lo, .int hi] ∧ k (.set (.bl (decide (lo ≤ x ∧ x ≤ hi))))
section
variable {P : Program} {w : World} {K : PySem.W.Frag} {mg : Str → Option Value} {base : Heap} {x : Str} {k : Nat}
theorem one_z (D : Def P w K mg base x k spOne) : Def P w K mg base x k (spZd K rzOne) := D.imp fun vs H Q E ⟨E0, d, ws, zs, kk, e1, h1, h2, h3, h4, ⟨l, e2, m0, m1, hk⟩, q⟩ => by
  subst e2
  obtain ⟨v, rfl, hv⟩ := zps_one h3
  obtain ⟨a, us, rfl, h5, h6⟩ := zp_lst hv
  subst e1
  refine ⟨d, a, us, E0, rfl, h1, h4, h5, by rw [h6.len]; exact m0, by rw [h6.len]; exact m1, fun i v H' hi g x => ?_⟩
  obtain ⟨g1, g2, g3⟩ := go_z (K := K) h2 h4 g x
  obtain ⟨z, hz, hp⟩ := zps_atv h6 hi
  exact q _ (hk i z hz) _ _ _ g1 (hp.up fun b o e => g3 b o e (h2.nt b o e)) g2
theorem far_z (D : Def P w K mg base x k spFar) : Def P w K mg base x k (spZd K rzFar) := D.imp fun vs H Q E ⟨E0, d, ws, zs, kk, e1, h1, h2, h3, h4, ⟨e2, hk⟩, q⟩ => by
  subst e2
  have := zps_nil h3
  subst this
  subst e1
  refine ⟨d, E0, rfl, h1, h4, fun r G' H' r0 g x => ?_⟩
  obtain ⟨g1, g2, _⟩ := go_z (K := K) h2 h4 g x
  exact q _ (hk r r0) _ _ _ g1 (.int r) g2
theorem ret_same {E0 H : Hp} (nt : NtT E0 H) (h0 : Le E0 H) {v : V} {z : Z} (h : Zp K E0 v z) : Ret (frP K E0 H) (.set z) v H := by
  have := go_p (K := K) nt h0 (Go.refl h0)
  exact ⟨_, this, h.up this.up⟩
theorem within_z (D : Def P w K mg base x k spWithin) : Def P w K mg base x k (spZ K mg rzWithin) := D.imp fun vs H Q E ⟨E0, zs, kk, e, h0, nt, hz, ⟨t, lo, hi, e1, hk⟩, q, _⟩ => by
  subst e1
  cases hz with
  | cons a b =>
    cases b with
    | cons b c =>
      cases c with
      | cons c d =>
        cases d
        have a1 := zp_int a
        have b1 := zp_int b
        have c1 := zp_int c
        subst a1
        subst b1
        subst c1
        refine ⟨_, lo, hi, rfl, .inl ⟨t, rfl⟩, ?_⟩
        have e : withinV (.int t) lo hi = decide (lo ≤ t ∧ t ≤ hi) := by
          show (decide (lo ≤ t) && decide (t ≤ hi)) = _
          rw [Bool.decide_and]
        rw [e]
        exact q _ hk _ _ (ret_same nt h0 (.bl _))
end
end Rt

set_option autoImplicit false
namespace Rt
open PySem PySem.Spec PyProof.Rows L2 RZ TL LamX
variable [TabsT]
section
variable {fr : Fr} {F F' : Hp} {Γ : G} {T A : List (V × B)} {σ : L2.St} {H H' : Hp} {S S' : Addr → Own} {mg : Str → Option Value}
/-! ### max, min with default -/
def IsMaxD (l : List Int) (d m : Int) : Prop := (l = [] → m = d) ∧ (l ≠ [] → m ∈ l ∧ ∀ x ∈ l, x ≤ m)
def IsMinD (l : List Int) (d m : Int) : Prop := (l = [] → m = d) ∧ (l ≠ [] → m ∈ l ∧ ∀ x ∈ l, m ≤ x)
def zMD (P : List Int → Int → Int → Prop) (za zd : ZE) : ZE := fun Γ k => za Γ fun b => ∃ l : List Int, b.z = some (.lst (intsZ l)) ∧ zd Γ fun c => match c with
  | .set (.int d) => ∀ m, P l d m → k (.set (.int m))
  | _ => False
theorem z_maxD {t td : TE} {za zd : ZE} (h1 : SE fr t za) (h2 : SE fr td zd) : SE fr (tCKw (rMaxD fr.K) (tCons t tNil) (tCons td tNil)) (zMD IsMaxD za zd) := by
  intro F Γ T σ H Q k R kq q
  refine h1 F Γ T σ H _ _ R (fun b hb v H1 R1 => ?_) q
  obtain ⟨l, e, hb⟩ := hb
  refine h2 F Γ _ σ H1 _ _ R1 (fun c hc w H2 R2 => ?_) hb
  rw [List.append_assoc] at R2
  split at hc
  · rename_i d
    have := zp_int (R2.zp (j := 1) rfl rfl)
    subst this
    obtain ⟨a, vs, rfl, h3, h4⟩ := zp_lst (R2.zp (j := 0) rfl e)
    rw [zps_ints h4] at h3
    refine ⟨a, l, _, rfl, rfl, SqL.of h3, fun hn => kq _ (hc d ⟨fun _ => rfl, fun z => absurd hn z⟩) _ _ (R2.sc fun _ => .int _), fun m hm hx => kq _ (hc m ⟨fun z => (by rw [z] at hm; cases hm), fun _ => ⟨hm, hx⟩⟩) _ _ (R2.sc fun _ => .int _)⟩
  · exact hc.elim
theorem z_minD {t td : TE} {za zd : ZE} (h1 : SE fr t za) (h2 : SE fr td zd) : SE fr (tCKw (rMinD fr.K) (tCons t tNil) (tCons td tNil)) (zMD IsMinD za zd) := by
  intro F Γ T σ H Q k R kq q
  refine h1 F Γ T σ H _ _ R (fun b hb v H1 R1 => ?_) q
  obtain ⟨l, e, hb⟩ := hb
  refine h2 F Γ _ σ H1 _ _ R1 (fun c hc w H2 R2 => ?_) hb
  rw [List.append_assoc] at R2
  split at hc
  · rename_i d
    have := zp_int (R2.zp (j := 1) rfl rfl)
    subst this
    obtain ⟨a, vs, rfl, h3, h4⟩ := zp_lst (R2.zp (j := 0) rfl e)
    rw [zps_ints h4] at h3
    refine ⟨a, l, _, rfl, rfl, SqL.of h3, fun hn => kq _ (hc d ⟨fun _ => rfl, fun z => absurd hn z⟩) _ _ (R2.sc fun _ => .int _), fun m hm hx => kq _ (hc m ⟨fun z => (by rw [z] at hm; cases hm), fun _ => ⟨hm, hx⟩⟩) _ _ (R2.sc fun _ => .int _)⟩
  · exact hc.elim
/-! ### in, not in -/
def scZ : Z → Option V
  | .int i => some (.int i)
  | .str s => some (.str s)
  | .non => some .non
  | _ => none
def scsZ : List Z → Option (List V)
  | [] => some []
  | z :: l => match scZ z, scsZ l with
    | some v, some vs => some (v :: vs)
    | _, _ => none
theorem scZ_p {K : PySem.W.Frag} {H : Hp} {z : Z} {v w : V} (h : Zp K H v z) (e : scZ z = some w) : v = w ∧ flatV w = true := by
  cases z <;> cases e <;> cases h <;> exact ⟨rfl, rfl⟩
theorem scsZ_p {K : PySem.W.Frag} {H : Hp} : ∀ {l : List Z} {vs ws : List V}, Zps K H vs l → scsZ l = some ws → vs = ws ∧ ws.all flatV = true
  | [], _, _, h, e => by cases h; cases e; exact ⟨rfl, rfl⟩
  | z :: l, _, ws, h, e => by
    cases h with
    | cons a b =>
      unfold scsZ at e
      cases e1 : scZ z with
      | none => rw [e1] at e; cases e
      | some v =>
        cases e2 : scsZ l with
        | none => rw [e1, e2] at e; cases e
        | some vs =>
          rw [e1, e2] at e
          cases e
          obtain ⟨h1, h2⟩ := scZ_p a e1
          obtain ⟨h3, h4⟩ := scsZ_p b e2
          refine ⟨by rw [h1, h3], ?_⟩
          rw [List.all_cons, h2, h4]
          rfl
def zIn (f : Bool → Bool) : B → B → (B → Prop) → Prop := fun b1 b2 k => match b1.z, b2.z with
  | some z, some (.lst l) => match scZ z, scsZ l with
    | some v, some vs => k (.set (.bl (f (inV v vs))))
    | _, _ => False
  | some z, some (.tup l) => match scZ z, scsZ l with
    | some v, some vs => k (.set (.bl (f (inV v vs))))
    | _, _ => False
  | _, _ => False
theorem in_core {fr : Fr} {F : Hp} {Γ : G} {T : List (V × B)} {σ : L2.St} {H : Hp} {v1 v2 : V} {b1 b2 : B} {k : B → Prop} {f : Bool → Bool} (R : Rel fr F Γ (T ++ [(v1, b1), (v2, b2)]) σ H) (h : zIn f b1 b2 k) :
    ∃ p xs, v2 = .ref p ∧ (SqL fr.K H p xs ∨ SqT fr.K H p xs) ∧ flatV v1 = true ∧ xs.all flatV = true ∧ k (.set (.bl (f (inV v1 xs)))) := by
  unfold zIn at h
  split at h
  · rename_i z l e1 e2
    split at h
    · rename_i v vs e3 e4
      obtain ⟨a, us, rfl, h1, h2⟩ := zp_lst (R.zp (j := 1) rfl e2)
      obtain ⟨rfl, f1⟩ := scZ_p (R.zp (j := 0) rfl e1) e3
      obtain ⟨rfl, f2⟩ := scsZ_p h2 e4
      exact ⟨a, _, rfl, .inl (SqL.of h1), f1, f2, h⟩
    · exact h.elim
  · rename_i z l e1 e2
    split at h
    · rename_i v vs e3 e4
      obtain ⟨a, us, rfl, h1, h2⟩ := zp_tup (R.zp (j := 1) rfl e2)
      obtain ⟨rfl, f1⟩ := scZ_p (R.zp (j := 0) rfl e1) e3
      obtain ⟨rfl, f2⟩ := scsZ_p h2 e4
      exact ⟨a, _, rfl, .inr h1, f1, f2, h⟩
    · exact h.elim
  · exact h.elim
theorem s_inSeq : SO2 fr (rIn fr.K false) (zIn id) := by
  intro F Γ T σ H Q k v1 v2 b1 b2 R kq h
  obtain ⟨p, xs, h1, h2, h3, h4, h5⟩ := in_core R h
  exact ⟨p, xs, h1, h2, h3, h4, kq _ h5 _ H (R.sc fun _ => .bl _)⟩
theorem s_notInSeq : SO2 fr (rIn fr.K true) (zIn not) := by
  intro F Γ T σ H Q k v1 v2 b1 b2 R kq h
  obtain ⟨p, xs, h1, h2, h3, h4, h5⟩ := in_core R h
  exact ⟨p, xs, h1, h2, h3, h4, kq _ h5 _ H (R.sc fun _ => .bl _)⟩
/-! ### xs.insert(i, e), a statement -/
abbrev rInsert : V → List V → Hp → VK → Prop := fun x vs H Q => ∃ (l : Addr) (xs : List V) (i : Int) (y : V), x = .ref l ∧ vs = [.int i, y] ∧ H l = some (.lst xs) ∧ xs.length < sizeLine ∧ 0 ≤ i ∧ i < 2 ^ 63 ∧ Q .non (upd H l (.lst (xs.take i.toNat ++ [y] ++ xs.drop i.toNat)))
def zIns (i : Nat) (zj z : ZE) : ZS := fun D Γ => match Γ[i]? with
  | some (some (.own (.lst l))) => zj Γ fun c => z Γ fun b => match c with
    | .set (.int j) => b.tk fun y => l.length < 1000000 ∧ (0 ≤ j ∧ j < 2 ^ 63) ∧ D.nx (Γ.set i (some (.own (.lst (l.take j.toNat ++ [y] ++ l.drop j.toNat)))))
    | _ => False
  | _ => False
theorem z_ins {tj t : TE} {zj z : ZE} (i : Nat) (hj : SE fr tj zj) (h : SE fr t z) : SS fr (tDrop (tBM fr.K "list" rInsert (tVar i) (tCons tj (tCons t tNil)))) (zIns i zj z) := by
  intro F Γ σ H zD D R hD q
  unfold zIns at q
  split at q
  · rename_i l e
    obtain ⟨S, a, vs, R0, h1, h2, h3, h4⟩ := R.ownL e
    refine ⟨_, h1, .inl ⟨rfl, vs, SqL.of h2⟩, ?_⟩
    refine hj F Γ [] σ H _ _ R (fun c hc w H1 R1 => ?_) q
    refine h F Γ _ σ H1 _ _ R1 (fun b hb v H2 R2 => ?_) hc
    split at hb
    · rename_i j
      have R2 : Rel fr F Γ (([] ++ [(w, B.set (.int j))]) ++ [(v, b)]) σ H2 := R2
      obtain ⟨y, hy, R2⟩ := R2.tk hb
      have hw := zp_int (Rel.zp (T := []) (A := [(w, B.set (.int j)), (v, B.set y)]) R2 (j := 0) rfl rfl)
      subst hw
      obtain ⟨S, a', vs, R3, h1', h2, h3, h4⟩ := R2.ownL e
      rw [h1] at h1'
      cases h1'
      refine ⟨a, vs, j, v, rfl, rfl, h2, mem_lt (by rw [h4.len]; omega), hy.2.1.1, hy.2.1.2, ?_⟩
      have hv : Zp fr.K (vw S H2 (eqO .set)) v y := R3.tm 1 v _ rfl
      exact hD.nx _ _ _ (R3.putL h1 h2 h3 (zps_app (zps_app (zps_take _ h4) (.cons hv .nil)) (zps_drop _ h4))) hy.2.2
    · exact hb.elim
  · exact q.elim
end
end Rt

set_option autoImplicit false
namespace Rt
open PySem PySem.Spec PyProof.Rows L2 RZ TL LamX
variable [TabsT]
/-! ### tuples of numbers and texts, events or not -/
def spIsEvK (K : PySem.W.Frag) : Sp := fun vs H Q _ => ∃ (p : Addr) (xs : List V) (H0 : Hp), vs = [.ref p] ∧ Ex H0 H ∧ SqT K H0 p xs ∧ (∀ x ∈ xs, Scal x) ∧ xs.length ≤ 1000 ∧ ∀ H', Go (fun _ => False) H0 H H0 H' → Q (.bl (isEv xs)) H'
/-- a good thing drawn: a new tuple -/
def spThing : Sp := fun vs H Q _ => ∃ (d : Addr) (H0 : Hp), vs = [.ref d] ∧ Ex H0 H ∧ Dr H0 H d ∧
  ∀ (t : Addr) (xs : List V) (G0 H' : Hp), thingOk xs = true → (∀ x ∈ xs, Scal x) → xs.length ≤ 4 → Go (· = d) H0 H G0 H' → Dr G0 H' d → H t = none → G0 t = some (.tup xs) → Q (.ref t) H'
theorem zps_scal {K : PySem.W.Frag} {H : Hp} : ∀ {xs vs : List V}, (∀ x ∈ xs, Scal x) → Zps K H vs (xs.map vZ) → vs = xs
  | [], _, _, h => by cases h; rfl
  | x :: xs, _, hx, h => by
    cases h with
    | cons a b =>
      rw [zps_scal (fun y hy => hx y (.tail _ hy)) b]
      rcases hx x (.head _) with ⟨z, rfl⟩ | ⟨s, rfl, _⟩
      · rw [zp_int a]
      · rw [zp_str a]
theorem scal_zps {K : PySem.W.Frag} {H : Hp} : ∀ {xs : List V}, (∀ x ∈ xs, Scal x) → Zps K H xs (xs.map vZ)
  | [], _ => .nil
  | x :: xs, hx => by
    refine .cons ?_ (scal_zps fun y hy => hx y (.tail _ hy))
    rcases hx x (.head _) with ⟨z, rfl⟩ | ⟨s, rfl, _⟩
    · exact .int z
    · exact .str s
theorem vZ_imm (x : V) : (vZ x).imm = true := by cases x <;> rfl
theorem vZs_imm : ∀ xs : List V, Z.imms (xs.map vZ) = true
  | [] => rfl
  | x :: xs => by
    show ((vZ x).imm && Z.imms (xs.map vZ)) = true
    rw [vZ_imm, vZs_imm xs]
    rfl
def rzIsEv : RZs := fun zs k _ => ∃ xs : List V, zs = [.tup (xs.map vZ)] ∧ (∀ x ∈ xs, Scal x) ∧ xs.length ≤ 1000 ∧ k (.set (.bl (isEv xs)))
def rzThing : List Z → (B → Prop) → Prop := fun zs k => zs = [] ∧ ∀ xs : List V, thingOk xs = true → (∀ x ∈ xs, Scal x) → xs.length ≤ 4 → k (.set (.tup (xs.map vZ)))
section
variable {P : Program} {w : World} {K : PySem.W.Frag} {mg : Str → Option Value} {base : Heap} {x : Str} {k : Nat}
theorem is_event_z (D : Def P w K mg base x k (spIsEvK K)) : Def P w K mg base x k (spZ K mg rzIsEv) := D.imp fun vs H Q E ⟨E0, zs, kk, e, h0, nt, hz, ⟨xs, e1, hs, hl, hk⟩, q, _⟩ => by
  subst e1
  obtain ⟨v, rfl, hv⟩ := zps_one hz
  obtain ⟨a, us, rfl, h5, h6⟩ := zp_tup hv
  have := zps_scal hs h6
  subst this
  exact ⟨a, us, E0, rfl, h0, h5, hs, hl, fun H' g => q _ hk _ _ ⟨_, go_p nt h0 g, .bl _⟩⟩
theorem thing_z (D : Def P w K mg base x k spThing) : Def P w K mg base x k (spZd K rzThing) := D.imp fun vs H Q E ⟨E0, d, ws, zs, kk, e1, h1, h2, h3, h4, ⟨e2, hk⟩, q⟩ => by
  subst e2
  have := zps_nil h3
  subst this
  subst e1
  refine ⟨d, E0, rfl, h1, h4, fun t xs G' H' ht hs hl g x hn hp => ?_⟩
  obtain ⟨g1, g2, _⟩ := go_z (K := K) h2 h4 g x
  exact q _ (hk xs ht hs hl) _ _ _ g1 (.tup (vw_at (g.inn _ _ hp) rfl (.inl rfl)) (scal_zps hs)) g2
end
/-! ### a tuple in a text -/
section
variable {fr : Fr}
def zJfM (z : ZE) : G → (Nat → Prop) → Prop := fun Γ k => z Γ fun b => ∃ xs : List V, b.z = some (.tup (xs.map vZ)) ∧ (∀ v ∈ xs, Scal3 v) ∧ xs.length ≤ 50 ∧ k 100000
theorem j_fmtM {t : TE} {z : ZE} (h : SE fr t z) : SJ fr (tFmtM fr.K t) (zJfM z) := fun F Γ T σ H Q k R kq q => h F Γ T σ H _ _ R (fun b hb v H1 R1 => by
  obtain ⟨xs, e, hs, hl, hk⟩ := hb
  obtain ⟨a, us, rfl, h5, h6⟩ := zp_tup (Rel.zp R1 (j := 0) rfl e)
  have := zps_scal (fun x hx => (hs x hx).s2.s) h6
  subst this
  exact ⟨a, us, rfl, h5, hs, hl, fun m hm => kq _ hk _ _ hm R1.drop⟩) q
end
/-! ### slices at a place -/
theorem cut_to {l : List Z} {n : Nat} (h : n ≤ l.length) : cutZ l none (some (n : Int)) = l.take n := by
  unfold cutZ
  have e1 : HT.sIx l.length 0 none = 0 := rfl
  have e2 : HT.sIx l.length l.length (some (n : Int)) = n := by
    rw [HT.sIx_nat]
    omega
  rw [e1, e2, List.drop_zero, Nat.sub_zero]
theorem cut_from {l : List Z} {n : Nat} (h : n ≤ l.length) : cutZ l (some (n : Int)) none = l.drop n := by
  unfold cutZ
  have e1 : HT.sIx l.length l.length none = l.length := rfl
  have e2 : HT.sIx l.length 0 (some (n : Int)) = n := by
    rw [HT.sIx_nat]
    omega
  rw [e1, e2]
  exact List.take_of_length_le (by rw [List.length_drop]; omega)
theorem cut_but {l : List Z} (h : 0 < l.length) : cutZ l none (some (-1)) = l.take (l.length - 1) := by
  have e3 : HT.sIx l.length l.length (some (-1)) = if (-1 : Int) < 0 then ((-1 : Int) + (l.length : Int)).toNat else min (-1 : Int).toNat l.length := rfl
  unfold cutZ
  have e1 : HT.sIx l.length 0 none = 0 := rfl
  have e2 : HT.sIx l.length l.length (some (-1)) = l.length - 1 := by
    rw [e3, if_pos (by decide)]
    omega
  rw [e1, e2, List.drop_zero, Nat.sub_zero]
/-! ### names that the proof forgets -/
section
variable {fr : Fr} {F : Hp} {Γ : G} {T : List (V × B)} {σ : L2.St} {H : Hp}
theorem Rel.fgt (R : Rel fr F Γ T σ H) (vs : List Nat) : Rel fr F (gw Γ vs) T σ H := by
  obtain ⟨S, R⟩ := R
  exact ⟨S, R.go, R.f, by rw [gw_len]; exact R.len, fun i b e => R.sl i b (gw_some e).1, R.tm, fun i b e => R.nb i b (gw_some e).1⟩
def zFgt (vs : List Nat) (z : ZS) : ZS := fun D Γ => z D (gw Γ vs)
theorem z_fgt {t : TS} {z : ZS} (vs : List Nat) (h : SS fr t z) : SS fr t (zFgt vs z) := fun F Γ σ H zD D R hD q => h F _ σ H zD D (R.fgt vs) hD q
end
/-! ### good events are told by their parts -/
theorem ev_is {v : Evt} (h : v.Ok) : isEv v.v = true := by
  have W : ∀ {x lo hi : Int}, lo ≤ x ∧ x ≤ hi → withinV (.int x) lo hi = true := fun {x lo hi} h => by
    show (decide (lo ≤ x) && decide (x ≤ hi)) = true
    rw [decide_eq_true h.1, decide_eq_true h.2]
    rfl
  cases v with
  | key b t c k f =>
    obtain ⟨h1, h2, h3, h4⟩ := h
    show (withinV (.int t) 0 999999 && thingOk [.str (onW b), .int c, .int k, .int f]) = true
    rw [W h1, Bool.true_and]
    cases b with
    | true =>
      have h4 : (1 : Int) ≤ f ∧ f ≤ 127 := h4
      rw [show onW true = "on" from rfl, thing_word (by decide)]
      show (withinV (.int c) 0 15 && (withinV (.int k) 0 127 && (withinV (.int f) 1 127 && true))) = true
      rw [W h2, W h3, W h4]
      rfl
    | false =>
      have h4 : (0 : Int) ≤ f ∧ f ≤ 127 := h4
      rw [show onW false = "off" from rfl, thing_word (by decide)]
      show (withinV (.int c) 0 15 && (withinV (.int k) 0 127 && (withinV (.int f) 0 127 && true))) = true
      rw [W h2, W h3, W h4]
      rfl
  | knob t c k f =>
    obtain ⟨h1, h2, h3, h4⟩ := h
    show (withinV (.int t) 0 999999 && thingOk [.str "knob", .int c, .int k, .int f]) = true
    rw [W h1, Bool.true_and, thing_word (by decide)]
    show (withinV (.int c) 0 15 && (withinV (.int k) 0 127 && (withinV (.int f) 0 127 && true))) = true
    rw [W h2, W h3, W h4]
    rfl
  | voice t c f =>
    obtain ⟨h1, h2, h3⟩ := h
    show (withinV (.int t) 0 999999 && thingOk [.str "voice", .int c, .int f]) = true
    rw [W h1, Bool.true_and, thing_word (by decide)]
    show (withinV (.int c) 0 15 && (withinV (.int f) 0 127 && true)) = true
    rw [W h2, W h3]
    rfl
  | mark t s =>
    obtain ⟨h1, h2, h3⟩ := h
    show (withinV (.int t) 0 999999 && thingOk [.str "mark", .str s]) = true
    rw [W h1, Bool.true_and]
    rw [thing_mark]
    show (decide (s.length ≤ 12) && s.cps.toList.all _) = true
    rw [decide_eq_true h2, Bool.true_and]
    exact List.all_eq_true.mpr fun c h => decide_eq_true (h3 c h)
theorem Evt.v_inj {v u : Evt} (h : v.v = u.v) : v = u := by
  have ob : ∀ {b c : Bool}, onW b = onW c → b = c := fun {b c} h => by
    cases b <;> cases c
    · rfl
    · exact absurd h (by decide)
    · exact absurd h (by decide)
    · rfl
  have on1 : ∀ {b : Bool}, onW b ≠ "knob" := fun {b} => by cases b <;> decide
  have on2 : ∀ {b : Bool}, "knob" ≠ onW b := fun {b} => by cases b <;> decide
  cases v <;> cases u <;> simp only [Evt.v, List.cons.injEq, V.int.injEq, V.str.injEq, and_true, reduceCtorEq, false_and, and_false] at h
  · obtain ⟨rfl, h, rfl, rfl, rfl⟩ := h
    rw [ob h]
  · exact absurd h.2.1 on1
  · exact absurd h.2.1 on2
  · obtain ⟨rfl, _, rfl, rfl, rfl⟩ := h
    rfl
  · obtain ⟨rfl, _, rfl, rfl⟩ := h
    rfl
  · obtain ⟨rfl, _, rfl⟩ := h
    rfl
end Rt

namespace Rt
open PySem PySem.Spec PyProof.Rows L2 RZ TL LamX
/-! ### keen tracks: few keys -/
def RiseE (es : List Evt) : Prop := ∀ j x y, es[j]? = some x → es[j + 1]? = some y → x.tick ≤ y.tick
/-- a drawn track: a list of events, the list itself not settled -/
def spKeen : Sp := fun vs H Q _ => ∃ (d : Addr) (m : Nat) (H0 : Hp), vs = [.ref d, .int (m : Int)] ∧ m ≤ 1000 ∧ Ex H0 H ∧ Dr H0 H d ∧
  ∀ (p : Addr) (ps : List Addr) (es : List Evt) (G0 H' : Hp), Go (· = d) H0 H G0 H' → Dr G0 H' d → H p = none → H' p = some (.lst (ps.map V.ref)) → G0 p = none → Evs G0 ps (es.map Evt.v) → es.length ≤ m → (∀ e ∈ es, e.Ok) → RiseE es → Q (.ref p) H'
/-- pairs of a channel and a key, settled -/
def Pairs (G : Hp) (vs : List V) : Prop := ∀ v ∈ vs, ∃ q c k, v = .ref q ∧ G q = some (.tup [.int c, .int k]) ∧ (0 ≤ c ∧ c ≤ 15) ∧ (0 ≤ k ∧ k ≤ 127)
theorem Pairs.up {G G' : Hp} {vs : List V} (h : Pairs G vs) (x : Ex G G') : Pairs G' vs := fun v hv => by
  obtain ⟨q, c, k, e, h1, h2⟩ := h v hv
  exact ⟨q, c, k, e, x _ _ h1, h2⟩
theorem Pairs.snoc {G : Hp} {vs : List V} {q : Addr} {c k : Int} (h : Pairs G vs) (hq : G q = some (.tup [.int c, .int k])) (hc : 0 ≤ c ∧ c ≤ 15) (hk : 0 ≤ k ∧ k ≤ 127) : Pairs G (vs ++ [.ref q]) := fun v hv => by
  rcases List.mem_append.mp hv with h1 | h1
  · exact h v h1
  · exact ⟨q, c, k, List.mem_singleton.mp h1, hq, hc, hk⟩
theorem RiseE.snoc {es : List Evt} {e : Evt} (h : RiseE es) (hl : ∀ x ∈ es, x.tick ≤ e.tick) : RiseE (es ++ [e]) := fun j x y hx hy => by
  have ly := (List.getElem?_eq_some_iff.mp hy).1
  rw [List.length_append] at ly
  have ly : j + 1 < es.length + 1 := ly
  rw [List.getElem?_append_left (by omega)] at hx
  by_cases c : j + 1 < es.length
  · rw [List.getElem?_append_left c] at hy
    exact h j x y hx hy
  · rw [List.getElem?_append_right (by omega), show j + 1 - es.length = 0 by omega] at hy
    cases hy
    exact hl x (List.mem_of_getElem? hx)
theorem TrS.nw {d : Addr} {H0 B : Hp} {p : Addr} {ps : List Addr} {evs : List (List V)} {G H : Hp} {x : Addr} (T : TrS d H0 B p ps evs G H) (o : HO) (h : H x = none) :
    ∃ G' H', upd H x o = H' ∧ TrS d H0 B p ps evs G' H' ∧ G' x = some o ∧ Ex G G' := ⟨_, _, rfl, T.put o h, upd_same, Ex.new (T.S.ex.free h)⟩
theorem evt_of {t : Int} {ys : List V} (h0 : 0 ≤ t) (h1 : t ≤ 999999) (h : thingOk ys = true) (hl : ys.length ≤ 4) : ∃ e : Evt, .int t :: ys = e.v ∧ e.Ok ∧ e.tick = t := by
  obtain ⟨e, he, ok⟩ := good_evt (good_mk h0 h1 h hl).1
  refine ⟨e, he, ok, ?_⟩
  rw [← Evt.tick_v, ← he]
  rfl
end Rt

namespace Rt
open PySem PySem.Spec PyProof.Rows L2
/-! ### setdefault of a dict whose keys are tuples -/
def rSetdT : V → List V → Hp → VK → Prop := fun x xs H Q => ∃ (D : Addr) (es : List (List L2.Key × V)) (c : List L2.Key) (kp : Addr) (new : V),
  x = .ref D ∧ xs = [.ref kp, new] ∧ H D = some (.dT es) ∧ H kp = some (.tup (c.map kV)) ∧ es.length < sizeLine ∧
  (∀ old, valV es c = some old → Q old H) ∧ (valV es c = none → Q new (upd H D (.dT (putK es c new))))
theorem mt_setdT {X : Cx} (hu : X.A.units + 1 < cLine) : MtR X "dict.setdefault" rSetdT := by
  intro pins s σ H x xs v us Q I rx rxs h
  obtain ⟨D, es, c, kp, new, rfl, rfl, hD, hk, small, q1, q2⟩ := h
  cases rx
  obtain ⟨u1, u2, rfl, r1, r2⟩ := vals2 rxs
  cases r1
  obtain ⟨sz, sys, ys, rel, dd⟩ := dt_of I.hok hD
  have ysz : ys.length ≤ sizeLine := (Paired.length rel) ▸ sz
  refine call_setdefault_heap (hsz := ysz) (tupleKind_room_in1 hu) (key_of I.hok hk) sys dd (fun p hp => ?_) (fun hn h' dd' same => ?_)
  · have r := rel.val c
    rw [hp] at r
    cases ev : valV es c with
    | none => rw [ev] at r; exact (show False from r).elim
    | some old =>
      rw [ev] at r
      exact ⟨old, H, I.tok _, r, q1 old ev⟩
  · have r := rel.val c
    rw [hn] at r
    cases ev : valV es c with
    | some old => rw [ev] at r; exact (show False from r).elim
    | none =>
      have lp : (putK es c new).length ≤ sizeLine := by
        have := length_putK es c new
        omega
      obtain ⟨ob, e1, e2, g1, g2, g3, g4, _, g5⟩ := dd'
      have mu : L2.Mut (H D) := by rw [hD]; exact True.intro
      have nw := (rel.put c hk r2).keeps (H' := upd H D (.dT (putK es c new))) fun b zs eb => by
        rw [upd_ne (ne_of eb hD (fun z => nomatch z))]
        exact eb
      exact ⟨new, _, d_write (ob := .dT (putK es c new)) (t' := s.toks + _) I mu same ⟨ob, g1⟩ ⟨lp, sys, _, nw, ob, e1, e2, g1, g2, g3, g4, g5⟩, r2, q2 ev⟩
end Rt

namespace Rt
open PySem PySem.Spec PyProof.Rows L2 RZ TL LamX
/-! ### notes led to their ends -/
abbrev Row := Nat × Option Nat
structure NS where
  rows : List Row
  alone : List Nat
  above : List Nat
def Evt.ck : Evt → Option (Int × Int)
  | .key _ _ c k _ => some (c, k)
  | _ => none
def ckAt (es : List Evt) (j : Nat) : Option (Int × Int) := (es[j]?).bind Evt.ck
def isOpen (es : List Evt) (c : Int × Int) (r : Row) : Bool := decide (r.2 = none) && decide (ckAt es r.1 = some c)
def openAt (es : List Evt) (rows : List Row) (c : Int × Int) : List Nat := (rows.filter (isOpen es c)).map (·.1)
def setEnd (rows : List Row) (b i : Nat) : List Row := rows.map fun r => if r.1 = b then (r.1, some i) else r
def stepN (es : List Evt) (i : Nat) (s : NS) : NS := match es[i]? with
  | some (.key true _ c k _) => ⟨s.rows ++ [(i, none)], s.alone, if openAt es s.rows (c, k) = [] then s.above else s.above ++ [i]⟩
  | some (.key false _ c k _) => match openAt es s.rows (c, k) with
    | [] => ⟨s.rows, s.alone ++ [i], s.above⟩
    | b :: _ => ⟨setEnd s.rows b i, s.alone, s.above⟩
  | _ => s
def walkN (es : List Evt) : Nat → NS
  | 0 => ⟨[], [], []⟩
  | i + 1 => stepN es i (walkN es i)
def endV : Option Nat → V
  | none => .non
  | some e => .int (e : Int)
def rowsK (rows : List Row) : List (Key × V) := rows.map fun r => (Sum.inl (r.1 : Int), endV r.2)
theorem rowsK_len (rows : List Row) : (rowsK rows).length = rows.length := List.length_map ..
def Asc (rows : List Row) (i : Nat) : Prop := (rows.map (·.1)).Pairwise (· < ·) ∧ ∀ r ∈ rows, r.1 < i
theorem setEnd_fst (rows : List Row) (b i : Nat) : (setEnd rows b i).map (·.1) = rows.map (·.1) := by
  unfold setEnd
  rw [List.map_map]
  refine List.map_congr_left fun r _ => ?_
  show (if r.1 = b then (r.1, some i) else r).1 = r.1
  split <;> rfl
theorem Asc.up {rows : List Row} {i j : Nat} (h : Asc rows i) (hj : i ≤ j) : Asc rows j := ⟨h.1, fun r hr => Nat.lt_of_lt_of_le (h.2 r hr) hj⟩
theorem Asc.snoc {rows : List Row} {i : Nat} (h : Asc rows i) (v : Option Nat) : Asc (rows ++ [(i, v)]) (i + 1) := by
  refine ⟨?_, fun r hr => ?_⟩
  · rw [List.map_append, List.pairwise_append]
    refine ⟨h.1, List.pairwise_singleton .., fun a ha b hb => ?_⟩
    obtain ⟨r, hr, rfl⟩ := List.mem_map.mp ha
    rw [List.map_singleton, List.mem_singleton] at hb
    rw [hb]
    exact h.2 r hr
  · rcases List.mem_append.mp hr with h1 | h1
    · exact Nat.lt_succ_of_lt (h.2 r h1)
    · rw [List.mem_singleton.mp h1]
      exact Nat.lt_succ_self _
theorem Asc.setE {rows : List Row} {i j b e : Nat} (h : Asc rows i) (hj : i ≤ j) : Asc (setEnd rows b e) j := by
  refine ⟨by rw [setEnd_fst]; exact h.1, fun r hr => ?_⟩
  have h1 : r.1 ∈ (setEnd rows b e).map (·.1) := List.mem_map_of_mem hr
  rw [setEnd_fst] at h1
  obtain ⟨r', hr', e'⟩ := List.mem_map.mp h1
  rw [← e']
  exact Nat.lt_of_lt_of_le (h.2 r' hr') hj
theorem stepN_asc {es : List Evt} {i : Nat} {s : NS} (h : Asc s.rows i) : Asc (stepN es i s).rows (i + 1) := by
  unfold stepN
  split
  · exact h.snoc none
  · split
    · exact h.up (Nat.le_succ i)
    · exact h.setE (Nat.le_succ i)
  · exact h.up (Nat.le_succ i)
theorem walkN_asc (es : List Evt) : ∀ i, Asc (walkN es i).rows i
  | 0 => ⟨List.Pairwise.nil, fun r h => nomatch h⟩
  | i + 1 => stepN_asc (walkN_asc es i)
theorem asc_nd {rows : List Row} {i : Nat} (h : Asc rows i) : (rows.map (·.1)).Nodup := h.1.imp fun a => Nat.ne_of_lt a
theorem row_eq {rows : List Row} (h : (rows.map (·.1)).Nodup) {r s : Row} (hr : r ∈ rows) (hs : s ∈ rows) (e : r.1 = s.1) : r = s := by
  induction rows with
  | nil => exact nomatch hr
  | cons x xs ih =>
    rw [List.map_cons, List.nodup_cons] at h
    rcases List.mem_cons.mp hr with e1 | hr <;> rcases List.mem_cons.mp hs with e2 | hs
    · rw [e1, e2]
    · exact absurd (List.mem_map.mpr ⟨s, hs, by rw [← e, e1]⟩) h.1
    · exact absurd (List.mem_map.mpr ⟨r, hr, by rw [e, e2]⟩) h.1
    · exact ih h.2 hr hs
theorem mem_open {es : List Evt} {rows : List Row} {c : Int × Int} {b : Nat} (h : b ∈ openAt es rows c) : (b, none) ∈ rows ∧ ckAt es b = some c := by
  obtain ⟨r, hr, rfl⟩ := List.mem_map.mp h
  obtain ⟨h1, h2⟩ := List.mem_filter.mp hr
  unfold isOpen at h2
  rw [Bool.and_eq_true] at h2
  have e := of_decide_eq_true h2.1
  refine ⟨?_, of_decide_eq_true h2.2⟩
  rw [← e]
  exact h1
theorem open_snoc (es : List Evt) (rows : List Row) (i : Nat) (c : Int × Int) : openAt es (rows ++ [(i, none)]) c = if ckAt es i = some c then openAt es rows c ++ [i] else openAt es rows c := by
  unfold openAt
  rw [List.filter_append, List.map_append]
  by_cases h : ckAt es i = some c
  · rw [if_pos h, List.filter_cons_of_pos (by unfold isOpen; rw [decide_eq_true h, decide_eq_true rfl]; rfl)]
    rfl
  · rw [if_neg h, List.filter_cons_of_neg (by unfold isOpen; rw [decide_eq_false h, Bool.and_false]; exact Bool.false_ne_true)]
    exact List.append_nil _
theorem open_end {es : List Evt} {rows : List Row} {b i : Nat} {r : List Nat} {c : Int × Int} (hn : (rows.map (·.1)).Nodup) (h : openAt es rows c = b :: r) (c' : Int × Int) :
    openAt es (setEnd rows b i) c' = if c' = c then r else openAt es rows c' := by
  have hb : ckAt es b = some c := (mem_open (es := es) (rows := rows) (c := c) (by rw [h]; exact .head _)).2
  -- what goes is b alone
  have key : openAt es (setEnd rows b i) c' = (openAt es rows c').filter (fun x => decide (x ≠ b)) := by
    clear h
    induction rows with
    | nil => rfl
    | cons x xs ih =>
      rw [List.map_cons, List.nodup_cons] at hn
      have ih := ih hn.2
      unfold openAt setEnd at ih ⊢
      rw [List.map_cons]
      by_cases e : x.1 = b
      · rw [if_pos e, List.filter_cons_of_neg (by show ¬ ((decide (some i = none) && _) = true); rw [decide_eq_false (fun z => nomatch z)]; exact Bool.false_ne_true), ih]
        by_cases p : isOpen es c' x = true
        · rw [List.filter_cons_of_pos p, List.map_cons, List.filter_cons_of_neg (p := fun x => decide (x ≠ b)) (by rw [decide_eq_false (fun z => z e)]; exact Bool.false_ne_true)]
        · rw [List.filter_cons_of_neg p]
      · rw [if_neg e]
        by_cases p : isOpen es c' x = true
        · rw [List.filter_cons_of_pos p, List.filter_cons_of_pos p, List.map_cons, List.map_cons, List.filter_cons_of_pos (p := fun x => decide (x ≠ b)) (decide_eq_true e), ih]
        · rw [List.filter_cons_of_neg p, List.filter_cons_of_neg p, ih]
  rw [key]
  by_cases e : c' = c
  · rw [if_pos e, e, h, List.filter_cons_of_neg (p := fun x => decide (x ≠ b)) (by rw [decide_eq_false (fun z => z rfl)]; exact Bool.false_ne_true)]
    refine List.filter_eq_self.mpr fun x hx => decide_eq_true fun z => ?_
    have nd : (openAt es rows c).Nodup := (List.filter_sublist.map _).nodup hn
    rw [h, List.nodup_cons, ← z] at nd
    exact nd.1 hx
  · rw [if_neg e]
    refine List.filter_eq_self.mpr fun x hx => decide_eq_true fun z => e ?_
    have := (mem_open hx).2
    rw [z, hb] at this
    exact (Option.some.inj this).symm
theorem putK_none {rows : List Row} {i : Nat} (h : ∀ r ∈ rows, r.1 < i) : putK (rowsK rows) (Sum.inl (i : Int)) V.non = rowsK (rows ++ [(i, none)]) := by
  have n : ¬ ((rowsK rows).any (fun kv => decide (kv.1 = Sum.inl (i : Int))) = true) := fun z => by
    obtain ⟨kv, h1, h2⟩ := List.any_eq_true.mp z
    obtain ⟨r, hr, rfl⟩ := List.mem_map.mp h1
    have e : (Sum.inl (r.1 : Int) : Key) = Sum.inl (i : Int) := of_decide_eq_true h2
    have e := Sum.inl.inj e
    have := h r hr
    omega
  unfold putK
  rw [if_neg n]
  unfold rowsK
  rw [List.map_append]
  rfl
theorem putK_end {rows : List Row} {b i : Nat} {v : Option Nat} (h : (b, v) ∈ rows) : putK (rowsK rows) (Sum.inl (b : Int)) (V.int (i : Int)) = rowsK (setEnd rows b i) := by
  have n : (rowsK rows).any (fun kv => decide (kv.1 = Sum.inl (b : Int))) = true := List.any_eq_true.mpr ⟨_, List.mem_map_of_mem h, decide_eq_true rfl⟩
  unfold putK
  rw [if_pos n]
  unfold rowsK setEnd
  rw [List.map_map, List.map_map]
  refine List.map_congr_left fun r _ => ?_
  show (if (Sum.inl (r.1 : Int) : Key) = Sum.inl (b : Int) then (Sum.inl (r.1 : Int), V.int (i : Int)) else (Sum.inl (r.1 : Int), endV r.2)) = (Sum.inl ((if r.1 = b then (r.1, some i) else r).1 : Int), endV (if r.1 = b then (r.1, some i) else r).2)
  by_cases e : r.1 = b
  · rw [if_pos e, if_pos (by rw [e])]
    rfl
  · rw [if_neg e, if_neg (fun z => e (by have := Sum.inl.inj z; omega))]
theorem setEnd_len (rows : List Row) (b i : Nat) : (setEnd rows b i).length = rows.length := List.length_map ..
theorem walkN_len (es : List Evt) : ∀ i, (walkN es i).rows.length ≤ i ∧ (walkN es i).alone.length ≤ i ∧ (walkN es i).above.length ≤ i
  | 0 => ⟨Nat.le_refl _, Nat.le_refl _, Nat.le_refl _⟩
  | i + 1 => by
    obtain ⟨h1, h2, h3⟩ := walkN_len es i
    show (stepN es i (walkN es i)).rows.length ≤ i + 1 ∧ (stepN es i (walkN es i)).alone.length ≤ i + 1 ∧ (stepN es i (walkN es i)).above.length ≤ i + 1
    unfold stepN
    split
    · refine ⟨by rw [List.length_append]; exact Nat.succ_le_succ h1, Nat.le_succ_of_le h2, ?_⟩
      show (if _ then _ else _ : List Nat).length ≤ _
      split
      · omega
      · rw [List.length_append]; exact Nat.succ_le_succ h3
    · split
      · exact ⟨Nat.le_succ_of_le h1, by rw [List.length_append]; exact Nat.succ_le_succ h2, Nat.le_succ_of_le h3⟩
      · exact ⟨by show (setEnd _ _ _).length ≤ _; rw [setEnd_len]; omega, Nat.le_succ_of_le h2, Nat.le_succ_of_le h3⟩
    · exact ⟨by omega, by omega, by omega⟩
/-- the pairs that are told -/
def rowD (r : Row) : PyData := .tuple [.int (r.1 : Int), match r.2 with | none => .none | some e => .int (e : Int)]
def rowsD (rows : List Row) : PyData := .list (rows.map rowD)
/-- what sounds, by channel and key: a list of places for each -/
def keyK (c k : Int) : List Key := [Sum.inl c, Sum.inl k]
def Snd (es : List Evt) (rows : List Row) (kvs : List (List Key × V)) (X : Addr → Prop) (H : Hp) : Prop :=
  (∀ c k, (valV kvs (keyK c k) = none ∧ openAt es rows (c, k) = []) ∨ ∃ l, valV kvs (keyK c k) = some (.ref l) ∧ H l = some (.lst (nums (openAt es rows (c, k)))) ∧ X l) ∧
  ∀ c k c' k' l, valV kvs (keyK c k) = some (.ref l) → valV kvs (keyK c' k') = some (.ref l) → c = c' ∧ k = k'
section
variable {es : List Evt} {rows : List Row} {kvs : List (List Key × V)} {X : Addr → Prop} {H : Hp}
theorem Snd.nil : Snd es [] [] X H := ⟨fun c k => .inl ⟨rfl, rfl⟩, fun c k c' k' l h => nomatch h⟩
theorem Snd.other {x : Addr} (S : Snd es rows kvs X H) (o : HO) (hx : ∀ l ys, H l = some (.lst ys) → X l → l ≠ x) : Snd es rows kvs X (upd H x o) := by
  refine ⟨fun c k => ?_, S.2⟩
  rcases S.1 c k with h | ⟨l, h1, h2, h3⟩
  · exact .inl h
  · exact .inr ⟨l, h1, by rw [upd_ne (hx l _ h2 h3)]; exact h2, h3⟩
theorem Snd.lay {p : Addr} (S : Snd es rows kvs X H) (o : HO) (hp : H p = none) : Snd es rows kvs X (upd H p o) := S.other o fun _ _ h _ => ne_of_none h hp
theorem keyK_inj {c k c' k' : Int} (h : keyK c k = keyK c' k') : c = c' ∧ k = k' := by
  unfold keyK at h
  injection h with h1 h2
  injection h2 with h2 _
  exact ⟨Sum.inl.inj h1, Sum.inl.inj h2⟩
theorem Snd.put {c k : Int} {l : Addr} (S : Snd es rows kvs X H) (hn : valV kvs (keyK c k) = none) (hl : H l = some (.lst [])) (hX : X l) (fr : ∀ c' k', valV kvs (keyK c' k') ≠ some (.ref l)) : Snd es rows (putK kvs (keyK c k) (.ref l)) X H := by
  have nil : openAt es rows (c, k) = [] := by
    rcases S.1 c k with h | ⟨_, h, _⟩
    · exact h.2
    · rw [hn] at h; cases h
  refine ⟨fun c' k' => ?_, fun c1 k1 c2 k2 m h1 h2 => ?_⟩
  · rw [valV_put]
    by_cases e : keyK c' k' = keyK c k
    · obtain ⟨rfl, rfl⟩ := keyK_inj e
      rw [if_pos rfl, nil]
      exact .inr ⟨l, rfl, hl, hX⟩
    · rw [if_neg e]
      exact S.1 c' k'
  · rw [valV_put] at h1 h2
    by_cases e1 : keyK c1 k1 = keyK c k <;> by_cases e2 : keyK c2 k2 = keyK c k
    · obtain ⟨rfl, rfl⟩ := keyK_inj e1
      obtain ⟨rfl, rfl⟩ := keyK_inj e2
      exact ⟨rfl, rfl⟩
    · rw [if_pos e1] at h1
      rw [if_neg e2] at h2
      cases h1
      exact absurd h2 (fr _ _)
    · rw [if_neg e1] at h1
      rw [if_pos e2] at h2
      cases h2
      exact absurd h1 (fr _ _)
    · rw [if_neg e1] at h1
      rw [if_neg e2] at h2
      exact S.2 _ _ _ _ _ h1 h2
theorem Snd.turn {rows' : List Row} {c k : Int} {l : Addr} {new : List Nat} (S : Snd es rows kvs X H) (hl : valV kvs (keyK c k) = some (.ref l)) (e : ∀ c', openAt es rows' c' = if c' = (c, k) then new else openAt es rows c') : Snd es rows' kvs X (upd H l (.lst (nums new))) := by
  refine ⟨fun c' k' => ?_, S.2⟩
  rw [e]
  rcases S.1 c' k' with ⟨h1, h2⟩ | ⟨m, h1, h2, h3⟩
  · rw [if_neg (fun z => by injection z with z1 z2; rw [z1, z2, hl] at h1; cases h1)]
    exact .inl ⟨h1, h2⟩
  · by_cases z : (c', k') = (c, k)
    · injection z with z1 z2
      subst z1 z2
      rw [hl] at h1
      cases h1
      rw [if_pos rfl]
      exact .inr ⟨l, hl, upd_same, h3⟩
    · rw [if_neg z]
      refine .inr ⟨m, h1, ?_, h3⟩
      rw [upd_ne]
      · exact h2
      · intro q
        subst q
        obtain ⟨rfl, rfl⟩ := S.2 _ _ _ _ _ h1 hl
        exact z rfl
theorem Snd.same {rows' : List Row} (S : Snd es rows kvs X H) (e : ∀ c', openAt es rows' c' = openAt es rows c') : Snd es rows' kvs X H :=
  ⟨fun c k => by rw [e]; exact S.1 c k, S.2⟩
end
theorem nums_tail (b : Nat) (r : List Nat) : (nums (b :: r)).eraseIdx 0 = nums r := rfl
theorem nums_pos (r : List Nat) : decide ((0 : Int) < ((nums r).length : Nat)) = decide (r ≠ []) := by
  rw [nums_len]
  cases r with
  | nil => rfl
  | cons x xs =>
    rw [decide_eq_true (by rw [List.length_cons]; omega), decide_eq_true (fun z => nomatch z)]
theorem step_on {es : List Evt} {i : Nat} {t c k f : Int} (he : es[i]? = some (.key true t c k f)) (s : NS) : stepN es i s = ⟨s.rows ++ [(i, none)], s.alone, if openAt es s.rows (c, k) = [] then s.above else s.above ++ [i]⟩ := by
  unfold stepN
  rw [he]
theorem step_off0 {es : List Evt} {i : Nat} {t c k f : Int} (he : es[i]? = some (.key false t c k f)) {s : NS} (h : openAt es s.rows (c, k) = []) : stepN es i s = ⟨s.rows, s.alone ++ [i], s.above⟩ := by
  unfold stepN
  rw [he]
  dsimp only
  rw [h]
theorem step_off1 {es : List Evt} {i b : Nat} {r : List Nat} {t c k f : Int} (he : es[i]? = some (.key false t c k f)) {s : NS} (h : openAt es s.rows (c, k) = b :: r) : stepN es i s = ⟨setEnd s.rows b i, s.alone, s.above⟩ := by
  unfold stepN
  rw [he]
  dsimp only
  rw [h]
theorem step_no {es : List Evt} {i : Nat} {e : Evt} (he : es[i]? = some e) (h : e.isKey = false) (s : NS) : stepN es i s = s := by
  unfold stepN
  rw [he]
  cases e with
  | key b t c k f => cases h
  | _ => rfl
theorem ck_at {es : List Evt} {i : Nat} {b : Bool} {t c k f : Int} (he : es[i]? = some (.key b t c k f)) : ckAt es i = some (c, k) := by
  unfold ckAt
  rw [he]
  rfl
/-- rows that stand as lists of two -/
structure RowsZ (B H : Hp) (a b c : Addr) (zs : List (Addr × Row)) (rows : List Row) : Prop where
  ha : H a = some (.lst (zs.map fun z => V.ref z.1))
  snd : zs.map (·.2) = rows
  nd : (zs.map (·.1)).Nodup
  at_ : ∀ z ∈ zs, H z.1 = some (.lst [.int (z.2.1 : Int), endV z.2.2]) ∧ B z.1 = none ∧ z.1 ≠ a ∧ z.1 ≠ b ∧ z.1 ≠ c
theorem RowsZ.other {B H : Hp} {a b c : Addr} {zs : List (Addr × Row)} {rows : List Row} {x : Addr} (R : RowsZ B H a b c zs rows) (o : HO) (ha : x ≠ a) (hz : ∀ z ∈ zs, z.1 ≠ x) : RowsZ B (upd H x o) a b c zs rows where
  ha := (upd_ne ha.symm).trans R.ha
  snd := R.snd
  nd := R.nd
  at_ := fun z h => by
    have := R.at_ z h
    exact ⟨(upd_ne (hz z h)).trans this.1, this.2⟩
theorem RowsZ.lay {B H : Hp} {a b c : Addr} {zs : List (Addr × Row)} {rows : List Row} {x : Addr} (R : RowsZ B H a b c zs rows) (o : HO) (h : H x = none) : RowsZ B (upd H x o) a b c zs rows :=
  R.other o (ne_of_none R.ha h).symm fun z hz => ne_of_none (R.at_ z hz).1 h
theorem RowsZ.ex {B H H' : Hp} {a b c : Addr} {zs : List (Addr × Row)} {rows : List Row} (R : RowsZ B H a b c zs rows) (x : Ex H H') : RowsZ B H' a b c zs rows where
  ha := x _ _ R.ha
  snd := R.snd
  nd := R.nd
  at_ := fun z h => ⟨x _ _ (R.at_ z h).1, (R.at_ z h).2⟩
def setZ (zs : List (Addr × Row)) (b i : Nat) : List (Addr × Row) := zs.map fun z => if z.2.1 = b then (z.1, (z.2.1, some i)) else z
theorem setZ_snd (zs : List (Addr × Row)) (b i : Nat) : (setZ zs b i).map (·.2) = setEnd (zs.map (·.2)) b i := by
  unfold setZ setEnd
  rw [List.map_map, List.map_map]
  refine List.map_congr_left fun z _ => ?_
  show (if z.2.1 = b then (z.1, (z.2.1, some i)) else z).2 = if z.2.1 = b then (z.2.1, some i) else z.2
  split <;> rfl
theorem setZ_fst (zs : List (Addr × Row)) (b i : Nat) : (setZ zs b i).map (·.1) = zs.map (·.1) := by
  unfold setZ
  rw [List.map_map]
  refine List.map_congr_left fun z _ => ?_
  show (if z.2.1 = b then (z.1, (z.2.1, some i)) else z).1 = z.1
  split <;> rfl
theorem setZ_ref (zs : List (Addr × Row)) (b i : Nat) : ((setZ zs b i).map fun z => V.ref z.1) = zs.map fun z => V.ref z.1 := by
  have h := congrArg (List.map V.ref) (setZ_fst zs b i)
  rw [List.map_map, List.map_map] at h
  exact h
theorem RowsZ.set {B H : Hp} {a b c : Addr} {zs : List (Addr × Row)} {rows : List Row} {l : Addr} {w i : Nat} {v : Option Nat} (R : RowsZ B H a b c zs rows) (hn : (rows.map (·.1)).Nodup) (h : (l, (w, v)) ∈ zs) :
    RowsZ B (upd H l (.lst [.int (w : Int), .int (i : Int)])) a b c (setZ zs w i) (setEnd rows w i) where
  ha := by
    rw [setZ_ref]
    exact (upd_ne (R.at_ _ h).2.2.1.symm).trans R.ha
  snd := by rw [setZ_snd, R.snd]
  nd := by rw [setZ_fst]; exact R.nd
  at_ := fun z hz => by
    obtain ⟨y, hy, rfl⟩ := List.mem_map.mp hz
    have Ry := R.at_ y hy
    have pair : ∀ {zs : List (Addr × Row)}, (zs.map (·.1)).Nodup → ∀ y ∈ zs, ∀ x ∈ zs, y.1 = x.1 → y = x := by
      intro zs
      induction zs with
      | nil => intro _ y hy; exact nomatch hy
      | cons u us ih =>
        intro nd y hy x hx e
        rw [List.map_cons, List.nodup_cons] at nd
        rcases List.mem_cons.mp hy with e1 | hy <;> rcases List.mem_cons.mp hx with e2 | hx
        · rw [e1, e2]
        · exact absurd (List.mem_map.mpr ⟨x, hx, by rw [← e, e1]⟩) nd.1
        · exact absurd (List.mem_map.mpr ⟨y, hy, by rw [e, e2]⟩) nd.1
        · exact ih nd.2 y hy x hx e
    by_cases e : y.2.1 = w
    · rw [if_pos e]
      -- it is l itself
      have ey : y.2 = (w, v) := row_eq hn (by rw [← R.snd]; exact List.mem_map_of_mem hy) (by rw [← R.snd]; exact List.mem_map_of_mem h) e
      have el : y.1 = l := by
        have hn2 : ((zs.map (·.2)).map (·.1)).Nodup := by rw [R.snd]; exact hn
        have one : ∀ {zs : List (Addr × Row)}, ((zs.map (·.2)).map (·.1)).Nodup → ∀ y ∈ zs, ∀ x ∈ zs, y.2.1 = x.2.1 → y = x := by
          intro zs
          induction zs with
          | nil => intro _ y hy; exact nomatch hy
          | cons u us ih =>
            intro nd y hy x hx e
            rw [List.map_cons, List.map_cons, List.nodup_cons] at nd
            rcases List.mem_cons.mp hy with e1 | hy <;> rcases List.mem_cons.mp hx with e2 | hx
            · rw [e1, e2]
            · exact absurd (List.mem_map.mpr ⟨x.2, List.mem_map_of_mem hx, by rw [← e, e1]⟩) nd.1
            · exact absurd (List.mem_map.mpr ⟨y.2, List.mem_map_of_mem hy, by rw [e, e2]⟩) nd.1
            · exact ih nd.2 y hy x hx e
        have := one hn2 y hy _ h e
        rw [this]
      refine ⟨?_, Ry.2⟩
      show upd H l _ y.1 = some (.lst [.int (y.2.1 : Int), .int (i : Int)])
      rw [el, upd_same, e]
    · rw [if_neg e]
      refine ⟨?_, Ry.2⟩
      rw [upd_ne]
      · exact Ry.1
      · intro z
        exact e (by rw [pair R.nd y hy _ h z])
theorem RowsZ.snoc {B H : Hp} {a b c : Addr} {zs : List (Addr × Row)} {rows : List Row} {l : Addr} {w : Nat} (R : RowsZ B H a b c zs rows) (hl : H l = some (.lst [.int (w : Int), .non])) (hB : B l = none) (n1 : l ≠ a) (n2 : l ≠ b) (n3 : l ≠ c) (fr : ∀ z ∈ zs, z.1 ≠ l) :
    RowsZ B (upd H a (.lst ((zs.map fun z => V.ref z.1) ++ [V.ref l]))) a b c (zs ++ [(l, (w, none))]) (rows ++ [(w, none)]) where
  ha := by rw [upd_same, List.map_append]; rfl
  snd := by rw [List.map_append, R.snd]; rfl
  nd := by
    rw [List.map_append]
    unfold List.Nodup
    rw [List.pairwise_append]
    refine ⟨R.nd, List.pairwise_singleton .., fun x hx y hy => ?_⟩
    obtain ⟨z, hz, rfl⟩ := List.mem_map.mp hx
    rw [List.map_singleton, List.mem_singleton] at hy
    rw [hy]
    exact fr z hz
  at_ := fun z hz => by
    rcases List.mem_append.mp hz with h | h
    · have := R.at_ z h
      exact ⟨(upd_ne this.2.2.1).trans this.1, this.2⟩
    · rw [List.mem_singleton.mp h]
      exact ⟨(upd_ne n1).trans hl, hB, n1, n2, n3⟩
theorem walkN_key (es : List Evt) : ∀ i, ∀ r ∈ (walkN es i).rows, ∃ t c k f, es[r.1]? = some (.key true t c k f)
  | 0, r, h => nomatch h
  | i + 1, r, h => by
    have ih := walkN_key es i
    have h : r ∈ (stepN es i (walkN es i)).rows := h
    unfold stepN at h
    split at h
    · rename_i t c k f he
      rcases List.mem_append.mp h with h | h
      · exact ih r h
      · rw [List.mem_singleton.mp h]
        exact ⟨_, _, _, _, he⟩
    · split at h
      · exact ih r h
      · rename_i b _ _
        have h1 : r.1 ∈ (setEnd (walkN es i).rows b i).map (·.1) := List.mem_map_of_mem h
        rw [setEnd_fst] at h1
        obtain ⟨r', hr', e'⟩ := List.mem_map.mp h1
        rw [← e']
        exact ih r' hr'
    · exact ih r h
def selZ (f : Row → Bool) (zs : List (Addr × Row)) : List (Addr × Row) := zs.filter fun z => f z.2
def refZ (zs : List (Addr × Row)) : List V := zs.map fun z => V.ref z.1
theorem selZ_snoc {f : Row → Bool} {zs : List (Addr × Row)} {j : Nat} {z : Addr × Row} (h : zs[j]? = some z) : selZ f (zs.take (j + 1)) = if f z.2 = true then selZ f (zs.take j) ++ [z] else selZ f (zs.take j) := by
  rw [take_snoc h]
  unfold selZ
  rw [List.filter_append]
  by_cases c : f z.2 = true
  · rw [if_pos c, List.filter_cons_of_pos (p := fun z : Addr × Row => f z.2) c]
    rfl
  · rw [if_neg c, List.filter_cons_of_neg (p := fun z : Addr × Row => f z.2) c]
    exact List.append_nil _
theorem selZ_open (es : List Evt) (c : Int × Int) : ∀ zs : List (Addr × Row), (selZ (isOpen es c) zs).map (fun z => z.2.1) = openAt es (zs.map (·.2)) c
  | [] => rfl
  | z :: zs => by
    have ih := selZ_open es c zs
    unfold selZ openAt at ih ⊢
    rw [List.map_cons]
    by_cases p : isOpen es c z.2 = true
    · rw [List.filter_cons_of_pos (p := fun z : Addr × Row => isOpen es c z.2) p, List.filter_cons_of_pos p, List.map_cons, List.map_cons, ih]
    · rw [List.filter_cons_of_neg (p := fun z : Addr × Row => isOpen es c z.2) p, List.filter_cons_of_neg p, ih]
theorem refZ_at {zs : List (Addr × Row)} {j : Nat} {x : V} (h : (refZ zs)[j]? = some x) : ∃ z, zs[j]? = some z ∧ x = V.ref z.1 := by
  unfold refZ at h
  rw [List.getElem?_map] at h
  cases e : zs[j]? with
  | none => rw [e] at h; cases h
  | some z => rw [e] at h; exact ⟨z, rfl, (Option.some.inj h).symm⟩
def rowP (r : Row) : PyData := .list [.int (r.1 : Int), match r.2 with | none => .none | some e => .int (e : Int)]
theorem ck_eq (c k c' k' : Int) : PyData.eqv (.tuple [.int c, .int k]) (.tuple [.int c', .int k']) = decide ((c, k) = (c', k')) := by
  show ((c == c') && ((k == k') && true)) = _
  rw [Bool.and_true]
  by_cases h1 : c = c'
  · by_cases h2 : k = k'
    · subst h1 h2
      rw [decide_eq_true rfl, beq_self_eq_true, beq_self_eq_true]
      rfl
    · rw [decide_eq_false (fun z => h2 (by injection z)), beq_eq_false_iff_ne.mpr h2, Bool.and_false]
  · rw [decide_eq_false (fun z => h1 (by injection z)), beq_eq_false_iff_ne.mpr h1, Bool.false_and]
def hereP (z : Addr × Row) : PyData := .list [.int (z.2.1 : Int), .none]
def hereD (here : List (Addr × Row)) : PyData := .list (here.map hereP)
theorem dp_here {K : PySem.W.Frag} {H : Hp} : ∀ here : List (Addr × Row), (∀ z ∈ here, H z.1 = some (.lst [.int (z.2.1 : Int), .non])) → DpAll K H (refZ here) (here.map hereP)
  | [], _ => .nil
  | z :: zs, h => .cons (.lst (SqL.of (h z (.head _))) (.cons (.int _) (.cons .non .nil))) (dp_here zs fun y hy => h y (.tail _ hy))
theorem here_lay : ∀ here : List (Addr × Row), PyData.canLayAll0 (here.map hereP) = true ∧ PyData.depthAll (here.map hereP) ≤ 1
  | [] => ⟨rfl, Nat.zero_le _⟩
  | z :: zs => by
    obtain ⟨h1, h2⟩ := here_lay zs
    refine ⟨?_, ?_⟩
    · show ((hereP z).canLay0 && PyData.canLayAll0 (zs.map hereP)) = true
      rw [h1]
      rfl
    · show max (hereP z).depth (PyData.depthAll (zs.map hereP)) ≤ 1
      have : (hereP z).depth = 1 := rfl
      omega
theorem here_shaped (here : List (Addr × Row)) : SeqAt.shaped (hereD here) = true := by
  obtain ⟨h1, h2⟩ := here_lay here
  show (PyData.canLayAll0 (here.map hereP) && decide (PyData.depthAll (here.map hereP) + 1 ≤ 64)) = true
  rw [h1, decide_eq_true (by omega)]
  rfl
theorem here_nil (here : List (Addr × Row)) : PyData.eqv (hereD here) (.list []) = decide (here = []) := by
  cases here with
  | nil => rfl
  | cons x r => rfl
theorem paired_app {α β : Type} {F : α → β → Prop} : ∀ {a c : List α} {b d : List β}, Paired F a b → Paired F c d → Paired F (a ++ c) (b ++ d)
  | _, _, _, _, .nil, h => h
  | _, _, _, _, .cons r t, h => .cons r (paired_app t h)
theorem mapPM {α β : Type} {F G : α → β → Prop} : ∀ {a : List α} {b : List β}, Paired F a b → (∀ x ∈ a, ∀ y ∈ b, F x y → G x y) → Paired G a b
  | _, _, .nil, _ => .nil
  | _, _, .cons r t, f => .cons (f _ (.head _) _ (.head _) r) (mapPM t fun x hx y hy => f x (.tail _ hx) y (.tail _ hy))
theorem dp_row {K : PySem.W.Frag} {H : Hp} {t : Addr} {q : Row} (h : H t = some (.tup [.int (q.1 : Int), endV q.2])) : Dp K H (.ref t) (rowD q) := by
  refine .tup (SqT.of h) (.cons (.int _) (.cons ?_ .nil))
  cases q.2 with
  | none => exact .non
  | some e => exact .int _
theorem dp_rows {K : PySem.W.Frag} {H : Hp} : ∀ {ts : List Addr} {rows : List Row}, Paired (fun (t : Addr) (q : Row) => H t = some (.tup [.int (q.1 : Int), endV q.2])) ts rows → DpAll K H (ts.map V.ref) (rows.map rowD)
  | _, _, .nil => .nil
  | _, _, .cons h t => .cons (dp_row h) (dp_rows t)
theorem rows_depth (rows : List Row) : (rowsD rows).depth ≤ 2 := by
  have h : ∀ rows : List Row, PyData.depthAll (rows.map rowD) ≤ 1 := fun rows => by
    induction rows with
    | nil => exact Nat.zero_le _
    | cons r rs ih =>
      show max (rowD r).depth (PyData.depthAll (rs.map rowD)) ≤ 1
      have : (rowD r).depth = 1 := by
        unfold rowD
        cases r.2 <;> rfl
      omega
  show PyData.depthAll (rows.map rowD) + 1 ≤ 2
  have := h rows
  omega
theorem rows_sm {rows : List Row} (hl : rows.length ≤ 100000) : smA (rowsD rows) := by
  have h : ∀ rows : List Row, smAll (rows.map rowD) := fun rows => by
    induction rows with
    | nil => exact True.intro
    | cons r rs ih =>
      refine ⟨?_, ih⟩
      unfold rowD
      refine ⟨(by show 2 ≤ 100000; decide), True.intro, ?_⟩
      cases r.2 with
      | none => exact ⟨True.intro, True.intro⟩
      | some e => exact ⟨True.intro, True.intro⟩
  exact ⟨by rw [List.length_map]; exact hl, h rows⟩
/-- walked_through: the ends by beginnings, the lone ends, those over another -/
def spWalk : Sp := fun vs H Q _ => ∃ (r : Addr) (ps : List Addr) (es : List Evt) (H0 : Hp), vs = [.ref r] ∧ Ex H0 H ∧ H0 r = some (.lst (ps.map V.ref)) ∧ Evs H0 ps (es.map Evt.v) ∧ es.length ≤ 1000 ∧
  ∀ (t a b c : Addr) (H' : Hp), Go (fun _ => False) H0 H H0 H' → H a = none → H b = none → H c = none → b ≠ c → H' t = some (.tup [.ref a, .ref b, .ref c]) → H' a = some (.dK (rowsK (walkN es es.length).rows)) →
    H' b = some (.lst (nums (walkN es es.length).alone)) → H' c = some (.lst (nums (walkN es es.length).above)) → Q (.ref t) H'
/-- the places that nothing ends -/
def hungN (rows : List Row) : List Nat := (rows.filter fun r => decide (r.2 = none)).map (·.1)
/-- a list of places, told of a track -/
def spTell (g : List Evt → List Nat) : Sp := fun vs H Q _ => ∃ (r : Addr) (ps : List Addr) (es : List Evt) (H0 : Hp), vs = [.ref r] ∧ Ex H0 H ∧ H0 r = some (.lst (ps.map V.ref)) ∧ Evs H0 ps (es.map Evt.v) ∧ es.length ≤ 1000 ∧
  ∀ (p : Addr) (H' : Hp), Go (fun _ => False) H0 H H0 H' → H p = none → H' p = some (.lst (nums (g es))) → Q (.ref p) H'
def gLone (es : List Evt) : List Nat := (walkN es es.length).alone
def gOver (es : List Evt) : List Nat := (walkN es es.length).above
def gHung (es : List Evt) : List Nat := hungN (walkN es es.length).rows
theorem hungN_snoc {rows : List Row} {j : Nat} {q : Row} (h : rows[j]? = some q) : hungN (rows.take (j + 1)) = if q.2 = none then hungN (rows.take j) ++ [q.1] else hungN (rows.take j) := by
  rw [take_snoc h]
  unfold hungN
  rw [List.filter_append, List.map_append]
  by_cases c : q.2 = none
  · rw [if_pos c, List.filter_cons_of_pos (p := fun r : Row => decide (r.2 = none)) (decide_eq_true c)]
    rfl
  · rw [if_neg c, List.filter_cons_of_neg (p := fun r : Row => decide (r.2 = none)) (by rw [decide_eq_false c]; exact Bool.false_ne_true)]
    exact List.append_nil _
theorem hungN_len (rows : List Row) : (hungN rows).length ≤ rows.length := by
  unfold hungN
  rw [List.length_map]
  exact List.length_filter_le _ _
theorem paired_at {α β : Type} {F : α → β → Prop} : ∀ {l : List α} {m : List β}, Paired F l m → ∀ {i : Nat} {x : α}, l[i]? = some x → ∃ y, m[i]? = some y ∧ F x y
  | _, _, .nil, i, x, h => by simp at h
  | _, _, .cons r t, 0, x, h => by
    cases h
    exact ⟨_, rfl, r⟩
  | _, _, .cons r t, i + 1, x, h => paired_at t (i := i) h
theorem dp_numsL {K : PySem.W.Frag} {H : Hp} {a : Addr} {l : List Nat} (h : H a = some (.lst (nums l))) : Dp K H (.ref a) (numsD l) := .lst (SqL.of h) (dp_nums l)
theorem numsD_ok {l : List Nat} (h : l.length ≤ 100000) : (numsD l).depth ≤ 1 ∧ smA (numsD l) := by
  have h1 : ∀ l : List Nat, PyData.depthAll (l.map fun (n : Nat) => PyData.int (n : Int)) = 0 ∧ smAll (l.map fun (n : Nat) => PyData.int (n : Int)) := fun l => by
    induction l with
    | nil => exact ⟨rfl, True.intro⟩
    | cons x xs ih =>
      refine ⟨?_, True.intro, ih.2⟩
      show max 0 (PyData.depthAll (xs.map fun (n : Nat) => PyData.int (n : Int))) = 0
      rw [ih.1]
      rfl
  refine ⟨?_, by rw [List.length_map]; exact h, (h1 l).2⟩
  show PyData.depthAll (l.map fun (n : Nat) => PyData.int (n : Int)) + 1 ≤ 1
  rw [(h1 l).1]
  exact Nat.le_refl _
end Rt

namespace Rt
open PySem PySem.Spec PyProof.Rows L2
/-! ### objects: making one, its methods, its length -/
/-- a class of the text, at C -/
structure ClsT (K : PySem.W.Frag) (mg : Str → Option Value) (x : Str) (C : Addr) : Prop where
  cl : Cls K C
  mks : PySem.W.makesIn K C = true
  kp : PySem.W.keepIn K (.ref C) = true
  mgC : mg x = some (.ref C)
section
variable {X : Cx} {CX : CXT} {x : Str} {p pos : Pos} {j k : Nat} {C f : Addr} {fd : FuncData} {ps : List Str} {sp : Sp}
theorem pe_new0 (c : C8.Mak X.prog X.w X.K X.mg X.base k x C sp []) (hr : Room j X.A) (hk : k + 1 ≤ j) (hg : Gl X x) (hdb : (x == ("__debug__" : Str)) = false := by decide) : PE X (.Call (.Name x p) [] [] pos) (tMake C sp [] E0 tNil) := by
  obtain ⟨f, fd, ps, ds, M, F, hm, b, d⟩ := c.ex
  exact pe_make0 M F (hr.mono hk) hg hm b d pass0 hdb
/-- a call of a def within a built-in, one frame deeper -/
theorem call_in1 {pins : List (Addr × Obj)} {σ : L2.St} {H : Hp} {s : Shared} {us : List Value} {vs : List V} {Q : VK} (F : FnOk X.prog X.w X.K X.mg X.base CX0 k f fd ps sp) (hr : Room (k + 1) X.A) (hb : Binds X.K fd ps []) (I : Inv X pins σ H s) (rv : Vals vs us) (h : sp vs H Q E0) {E' : Value → Shared → Prop} :
    wpAny (model X.prog X.w) X.A.in1 (call (.ref f) us) (EP X pins σ Q) E' s := by
  have hl : (us ++ []).length = ps.length := by
    rw [List.append_nil, ← F.len _ _ _ _ h, rv.length]
  refine wpAny_call (codeAny_mono (F.run X.A.in1 X.stack s H ⟨us, []⟩ (us ++ []) vs Q E0 hr.in1 I.env0.in1 (hb _ us I.kIn hl) (by rw [List.append_nil]; exact rv) h) fun r s' hq => ?_)
  cases r with
  | error er =>
    have z := (pass0 : Passes CX0 X.nox E0) pins σ H s er s' (I.wish _) hq
    exact False.elim z
  | ok fl =>
    cases fl with
    | ret u =>
      obtain ⟨v, H', I3, r3, q3⟩ := I.after hq
      exact ⟨v, H', I3, r3, q3⟩
    | next => exact False.elim hq
    | brk => exact False.elim hq
    | cont => exact False.elim hq
/-- len(o), by the class's own __len__ -/
def rLenO (C : Addr) (sp : Sp) : List V → Hp → VK → Prop := fun xs H Q => ∃ a dx fs, xs = [V.ref a] ∧ H a = some (.ins C dx fs) ∧ sp [.ref a] H (fun v H' => ∃ n : Int, v = .int n ∧ 0 ≤ n ∧ n < 2 ^ 63 ∧ Q (.int n) H') E0
theorem cr_lenO (M : Meth X.K C "__len__" f) (F : FnOk X.prog X.w X.K X.mg X.base CX0 k f fd ps sp) (hr : Room (k + 1) X.A) (hb : Binds X.K fd ps []) : CallR X (.builtin "len") (rLenO C sp) := by
  intro pins s σ H xs us Q I r h
  obtain ⟨a, dx, fs, rfl, ea, h⟩ := h
  obtain ⟨u, rfl, rx⟩ := vals1 r
  cases rx
  obtain ⟨mA, O, _⟩ := ins_get I.hok ea
  obtain ⟨od, J, _⟩ := O.look
  refine Calls.call_function_entry PySem.kind_len PySem.plain_len
    PySem.entry_len (PySem.args_len1 _) ?_
  unfold Builtin.«len»
  refine wpAny_bind (m := oneArg "len" _) (wpAny_pure ?_)
  have go := call_in1 (E' := X.xe) (us := [.ref a]) (vs := [.ref a]) F hr hb I (.cons rfl .nil) h
  refine wpAny_bind (m := callSpecial? (.ref a) (Str.ofString "__len__"))
    (PySem.W.special_fn I.kIn J M.at_ (beq_iff_eq.mp M.fn) (wpAny_mono go (fun v s' z => ?_) fun _ _ y => y))
  obtain ⟨v', H', I', rv, n, rfl, n0, n1, q⟩ := z
  obtain ⟨t, rfl⟩ : ∃ t, v = Value.int n t := rv
  refine wpAny_bind (wpAny_holding (wpAny_pure ?_))
  refine wpAny_bind (wpAny_letGo ?_)
  show wpAny _ _ (if n < 0 then _ else _) _ _ _
  rw [if_neg (by omega)]
  show wpAny _ _ (if n ≥ 2 ^ 63 then _ else _) _ _ _
  rw [if_neg (by omega)]
  refine wpAny_bind (wpAny_mkInt (wpAny_pure ⟨_, rfl, ?_⟩))
  exact ⟨.int n, H', I'.tok _, ⟨_, rfl⟩, q⟩
end
end Rt

namespace Rt
open PySem PySem.Spec PyProof.Rows L2 RZ TL LamX
/-! ### a list comprehension over enumerate -/
theorem lc_enum {K : PySem.W.Frag} {a : Addr} {xs : List V} {g : TG} {tt : TT} {te : TE} {vs : List Nat} {σ : L2.St} {H1 : Hp} {D : Addr} {Qd : Hp → Prop} (Pv : Nat → Hp → Prop) (h0 : Pv 0 (upd H1 D (.lst []))) (hq : ∀ i H, Pv i H → SqL K H a xs)
    (hs : ∀ (i : Nat) (x : V) (T : Addr) (H : Hp), xs[i]? = some x → Pv i H → H T = none → g (.ref T) (wipe σ vs) (upd H T (.tup [.int (i : Nat), x])) fun σ2 H2 => wipe σ2 vs = wipe σ vs ∧ tt σ2 H2 fun b H3 =>
      if b = true then te σ2 H3 fun y H4 => ∃ acc, H4 D = some (.lst acc) ∧ acc.length < sizeLine ∧ Pv (i + 1) (upd H4 D (.lst (acc ++ [y]))) else Pv (i + 1) H3) (hd : ∀ H, Pv xs.length H → Qd H) :
    ∃ W : Nat → Nat → Hp → Prop, (∃ m, W 0 m (upd H1 D (.lst []))) ∧ ∀ i m H, W i m H →
      ((Ite K a).stop i H ∧ Qd H) ∨ ((Ite K a).go i H ∧ ∃ Nx : Hp → Prop, (∀ H', Nx H' → ∃ m', m' < m ∧ W (i + 1) m' H') ∧ ∀ x H', (Ite K a).yld i H x H' → g x (wipe σ vs) H' fun σ2 H2 => wipe σ2 vs = wipe σ vs ∧ tt σ2 H2 fun b H3 =>
        if b = true then te σ2 H3 fun y H4 => ∃ acc, H4 D = some (.lst acc) ∧ acc.length < sizeLine ∧ Nx (upd H4 D (.lst (acc ++ [y]))) else Nx H3) := by
  refine ⟨fun i m H => m = xs.length - i ∧ i ≤ xs.length ∧ Pv i H, ⟨xs.length, rfl, Nat.zero_le _, h0⟩, ?_⟩
  rintro i m H ⟨rfl, hi, p⟩
  have qx := hq i H p
  by_cases hlt : i < xs.length
  · have hx : xs[i]? = some xs[i] := List.getElem?_eq_getElem hlt
    refine .inr ⟨⟨xs, _, qx, hx⟩, Pv (i + 1), fun H' p' => ⟨xs.length - (i + 1), by omega, rfl, hlt, p'⟩, fun v H' yl => ?_⟩
    obtain ⟨T, x, rfl, hT, rfl, fx⟩ := yl
    exact hs i x T H (fx xs qx) p hT
  · have e : i = xs.length := by omega
    subst e
    exact .inl ⟨⟨xs, qx, Nat.le_refl _⟩, hd H p⟩
/-! ### cured tracks -/
def endOf (e : Evt) (tk : Int) : Evt := match e with
  | .key _ _ c k _ => .key false tk c k 64
  | e => e
def keptN (es : List Evt) (al : List Nat) : Nat → List Evt
  | 0 => []
  | i + 1 => if i ∈ al then keptN es al i else keptN es al i ++ (es[i]?).toList
def lastT (es : List Evt) : Int := match es.getLast? with
  | some e => e.tick
  | none => 0
def endsN (es : List Evt) (tk : Int) (bs : List Nat) : List Evt := bs.flatMap fun b => (es[b]?).toList.map fun e => endOf e tk
def curedE (es : List Evt) (tk : Int) : List Evt := keptN es (gLone es) es.length ++ endsN es tk (gHung es)
/-- a call with keywords of a def that may raise -/
structure DefXN (P : Program) (w : World) (K : PySem.W.Frag) (mg : Str → Option Value) (base : Heap) (x : Str) (k n : Nat) (ks : List Str) (sp : Sp) (gV : List V → List V → List V) : Prop where
  ex : ∃ (f : Addr) (fd : FuncData) (ps : List Str) (g : List Value → List Value → List Value), mg x = some (.ref f) ∧ FnOk P w K mg base (L2.CX P w) k f fd ps sp ∧ PySem.W.keepIn K (.ref f) = true ∧ KBn K fd ps n ks g gV
def tCallNS (n m : Nat) (sp : Sp) (gV : List V → List V → List V) (E : L2.St → XK) (t tk : TA) : TE := fun σ H Q => t σ H fun vs H1 => tk σ H1 fun zs H2 => vs.length = n ∧ zs.length = m ∧ sp (gV vs zs) H2 Q (E σ)
theorem pe_dxN {X : Cx} {x : Str} {p pos : Pos} {e : Expr} {es : List Expr} {kws : List Keyword} {t tk : TA} {k n : Nat} {ks : List Str} {sp : Sp} {gV : List V → List V → List V} {W : WX} (D : DefXN X.prog X.w X.K X.mg X.base x k n ks sp gV) (hr : Room k X.A) (hg : Gl X x) (tks : Takes X W)
    (ha : PA X (e :: es) t) (hkw : PK X kws tk) (hall : (backToKw pos (keywordEach kws X.env)).all (·.1.isSome) = true := by rfl) (hks : (backToKw pos (keywordEach kws X.env)).filterMap (·.1) = ks := by rfl)
    (hdb : (x == ("__debug__" : Str)) = false := by decide) (he : starEach (e :: es) X.env = (false, eval e X.env) :: starEach es X.env := by rfl)
    (hpl : ((backTo pos (starEach (e :: es) X.env)).any (·.1) || (backToKw pos (keywordEach kws X.env)).any (·.1.isNone)) = false := by rfl) :
    PE X (.Call (.Name x p) (e :: es) kws pos) (tCallNS n ks.length sp gV (WE W) t tk) := by
  obtain ⟨f, fd, ps, g, hm, F, hk, hb⟩ := D.ex
  refine ⟨fun pins s σ H Q I h => ?_⟩
  refine wpAny_Call_Name_kw (ld_glob I hg hm ?_ hdb)
  refine PySem.W.callWith_KW (h₀ := X.base) I.ok.mod.kin hk hall (thn (ha.run pos pins s σ H _ I h) fun us s1 ⟨vs, H1, I1, r, q⟩ => ?_) hpl he
  refine thn (hkw.run pos pins s1 σ H1 _ I1 q) fun ws s2 ⟨zs, H2, I2, rz, l1, l2, q2⟩ => ⟨I2.kIn, ?_⟩
  rw [hks]
  refine wpAny_call (codeAny_mono (F.run X.A X.stack s2 H2 ⟨us, ks.zip ws⟩ (g us ws) (gV vs zs) Q (WE W σ) hr I2.env0 (hb.to s2 us ws I2.kIn (r.length.symm.trans l1) (rz.length.symm.trans l2)) (hb.rel r rz) q2) fun r s' hq => ?_)
  cases r with
  | error er => exact passAt tks σ pins H2 s2 er s' I2 hq
  | ok fl =>
    cases fl with
    | ret u => exact I2.after hq
    | next => exact False.elim hq
    | brk => exact False.elim hq
    | cont => exact False.elim hq
def tkOf (u : V) (l : Int) : Int := match u with
  | .int i => i
  | _ => l
def spEndOf : Sp := fun vs H Q _ => ∃ (a : Addr) (tk : Int) (e : Evt) (H0 : Hp), vs = [.ref a, .int tk] ∧ Ex H0 H ∧ H0 a = some (.tup e.v) ∧ e.isKey = true ∧
  ∀ (p : Addr) (H' : Hp), Go (fun _ => False) H0 H (upd H0 p (.tup (endOf e tk).v)) H' → H p = none → Q (.ref p) H'
def spCured (K : PySem.W.Frag) (mg : Str → Option Value) : Sp := fun vs H Q E => ∃ (r : Addr) (u : V) (ps : List Addr) (es : List Evt) (H0 : Hp), vs = [.ref r, u] ∧ Ex H0 H ∧ H0 r = some (.lst (ps.map V.ref)) ∧ Evs H0 ps (es.map Evt.v) ∧ es.length ≤ 250 ∧ (∀ e ∈ es, e.Ok) ∧ (u = .non ∨ ∃ i : Int, u = .int i ∧ i.natAbs < 10 ^ 40) ∧
  (¬ (lastT es ≤ tkOf u (lastT es) ∧ tkOf u (lastT es) ≤ 999999) → ∀ Hb, Go (fun _ => False) H0 H H0 Hb → ∀ cls d H', Raised K mg "badtick" true Hb cls d H' → E cls d H') ∧
  (lastT es ≤ tkOf u (lastT es) → tkOf u (lastT es) ≤ 999999 → 200 < (curedE es (tkOf u (lastT es))).length → ∀ Hb, Go (fun _ => False) H0 H H0 Hb → ∀ cls d H', Raised K mg "full" true Hb cls d H' → E cls d H') ∧
  (lastT es ≤ tkOf u (lastT es) → tkOf u (lastT es) ≤ 999999 → (curedE es (tkOf u (lastT es))).length ≤ 200 → ∀ (p : Addr) (qs : List Addr) (G H' : Hp), Go (fun _ => False) H0 H G H' → H p = none → G p = none → H' p = some (.lst (qs.map V.ref)) → Evs G qs ((curedE es (tkOf u (lastT es))).map Evt.v) → Q (.ref p) H')
theorem Go.weak0 {m : Addr → Prop} {H0 H G H' : Hp} (g : Go m H0 H G H') : Go m H0 H H0 H' := ⟨Ex.refl _, g.up.trans g.inn, fun _ _ h => h, g.keep, g.there⟩
theorem lastT_at {es : List Evt} (h : es ≠ []) : ∃ e, es[es.length - 1]? = some e ∧ lastT es = e.tick := by
  have hl : 0 < es.length := List.length_pos_iff.mpr h
  have he : es[es.length - 1]? = some es[es.length - 1] := List.getElem?_eq_getElem (by omega)
  refine ⟨_, he, ?_⟩
  unfold lastT
  rw [List.getLast?_eq_getElem?, he]
theorem lastT_ok {es : List Evt} (h : ∀ e ∈ es, e.Ok) : 0 ≤ lastT es ∧ lastT es ≤ 999999 := by
  by_cases c : es = []
  · subst c
    exact ⟨Int.le_refl _, by decide⟩
  · obtain ⟨e, he, e2⟩ := lastT_at c
    rw [e2]
    exact (h e (List.mem_of_getElem? he)).tk
theorem keptN_len (es : List Evt) (al : List Nat) : ∀ i, (keptN es al i).length ≤ i
  | 0 => Nat.le_refl _
  | i + 1 => by
    have ih := keptN_len es al i
    unfold keptN
    split
    · omega
    · rw [List.length_append]
      cases es[i]? with
      | none => show _ + 0 ≤ _; omega
      | some e => show _ + 1 ≤ _; omega
theorem gHung_len (es : List Evt) : (gHung es).length ≤ es.length := Nat.le_trans (hungN_len _) (walkN_len es es.length).1
theorem endsN_len (es : List Evt) (tk : Int) : ∀ bs : List Nat, (endsN es tk bs).length ≤ bs.length
  | [] => Nat.le_refl _
  | b :: bs => by
    have ih := endsN_len es tk bs
    unfold endsN at ih ⊢
    rw [List.flatMap_cons, List.length_append, List.length_map, List.length_cons]
    cases es[b]? with
    | none => show 0 + _ ≤ _; omega
    | some e => show 1 + _ ≤ _; omega
theorem hung_mem {es : List Evt} {b : Nat} (h : b ∈ gHung es) : ∃ t c k f, es[b]? = some (.key true t c k f) := by
  obtain ⟨r, hr, rfl⟩ := List.mem_map.mp h
  exact walkN_key es _ r (List.mem_filter.mp hr).1
end Rt

set_option autoImplicit false
namespace Rt
open PySem PySem.Spec PyProof.Rows L2 RZ TL LamX
variable [TabsT]
/-! ### a track at places, its events tuples of the heap or of the program -/
structure EvsK (K : PySem.W.Frag) (G : Hp) (ps : List Addr) (es : List Evt) : Prop where
  len : ps.length = es.length
  at_ : ∀ (i : Nat) (q : Addr) (e : Evt), ps[i]? = some q → es[i]? = some e → SqT K G q e.v
theorem evsK_at {K : PySem.W.Frag} {G : Hp} {ps : List Addr} {es : List Evt} (h : EvsK K G ps es) {i : Nat} {x : V} (hx : (ps.map V.ref)[i]? = some x) : ∃ p e, x = .ref p ∧ ps[i]? = some p ∧ es[i]? = some e ∧ SqT K G p e.v := by
  rw [List.getElem?_map] at hx
  obtain ⟨p, hp, rfl⟩ := Option.map_eq_some_iff.mp hx
  have hil := (List.getElem?_eq_some_iff.mp hp).1
  have he : es[i]? = some (es[i]'(by rw [← h.len]; exact hil)) := List.getElem?_eq_getElem _
  exact ⟨p, _, rfl, hp, he, h.at_ i p _ hp he⟩
theorem zps_ev {K : PySem.W.Frag} {H : Hp} {e : Evt} {us : List V} (h : Zps K H us (e.v.map vZ)) : us = e.v := by
  cases e with
  | key b t c k f => cases h with | cons h1 h => cases h with | cons h2 h => cases h with | cons h3 h => cases h with | cons h4 h => cases h with | cons h5 h => cases h; rw [zp_int h1, zp_str h2, zp_int h3, zp_int h4, zp_int h5]; rfl
  | knob t c k f => cases h with | cons h1 h => cases h with | cons h2 h => cases h with | cons h3 h => cases h with | cons h4 h => cases h with | cons h5 h => cases h; rw [zp_int h1, zp_str h2, zp_int h3, zp_int h4, zp_int h5]; rfl
  | voice t c f => cases h with | cons h1 h => cases h with | cons h2 h => cases h with | cons h3 h => cases h with | cons h4 h => cases h; rw [zp_int h1, zp_str h2, zp_int h3, zp_int h4]; rfl
  | mark t s => cases h with | cons h1 h => cases h with | cons h2 h => cases h with | cons h3 h => cases h; rw [zp_int h1, zp_str h2, zp_str h3]; rfl
theorem evsK_of {K : PySem.W.Frag} {H : Hp} : ∀ {es : List Evt} {vs : List V}, Zps K H vs (es.map evZ) → ∃ ps, vs = ps.map V.ref ∧ EvsK K H ps es
  | [], _, h => by
    cases h
    exact ⟨[], rfl, rfl, fun i q e h => by cases h⟩
  | e :: es, _, h => by
    cases h with
    | cons a b =>
      obtain ⟨ps, rfl, h1, h2⟩ := evsK_of b
      obtain ⟨p, us, rfl, h3, h4⟩ := zp_tup a
      have := zps_ev h4
      subst this
      refine ⟨p :: ps, rfl, by rw [List.length_cons, List.length_cons, h1], fun i q e' g1 g2 => ?_⟩
      cases i with
      | zero => cases g1; cases g2; exact h3
      | succ i => exact h2 i q e' g1 g2
theorem track_of {K : PySem.W.Frag} {H : Hp} {v : V} {es : List Evt} (h : Zp K H v (trackZ es)) : ∃ a ps, v = .ref a ∧ H a = some (.lst (ps.map V.ref)) ∧ EvsK K H ps es := by
  obtain ⟨a, vs, rfl, h1, h2⟩ := zp_lst h
  obtain ⟨ps, rfl, h3⟩ := evsK_of h2
  exact ⟨a, ps, rfl, h1, h3⟩
/-! ### what is new behind an older promise -/
def newA (E0 H : Hp) : Addr → Own := fun x => if H x = none then .tmp 0 else ownE E0 none x
theorem newA_new {E0 H : Hp} {x : Addr} (h : H x = none) : newA E0 H x = .tmp 0 := if_pos h
theorem newA_old {E0 H : Hp} {x : Addr} (h : H x ≠ none) : newA E0 H x = ownE E0 none x := if_neg h
theorem go_new {K : PySem.W.Frag} {E0 H H' : Hp} (nt : NtT E0 H) (h0 : Le E0 H) (g : Go (fun _ => False) E0 H E0 H') : GoZ (frP K E0 H) (newA E0 H) H' := by
  have g0 := go_p (K := K) nt h0 g
  have ne : ∀ b o, H b = some o → H b ≠ none := fun b o e => by rw [e]; simp
  refine ⟨fun b o e => ?_, fun b o e _ n => g.keep b o e n, g.there, fun b o e h => ?_, fun b i h => ?_, fun b j h => ?_, fun b h => ?_, g0.tabs⟩
  · obtain ⟨h1, h2, h3⟩ := vw_of (g0.up b o e)
    refine vw_at h1 h2 (h3.imp id fun c => decide_eq_true ?_)
    rw [newA_old (ne b o (h0 b o e))]
    exact of_decide_eq_true c
  · rw [newA_old (ne b o e)] at h
    exact .inl (ownE_set h)
  · by_cases c : H b = none
    · rw [newA_new c] at h; cases h
    · rw [newA_old c] at h; exact absurd h (ownE_no.1 i)
  · by_cases c : H b = none
    · exact c
    · rw [newA_old c] at h; exact absurd h (ownE_no.2 j)
  · by_cases c : H b = none
    · rw [newA_new c] at h; cases h
    · rw [newA_old c] at h; exact g0.ownD b h
theorem new_at {E0 H H' : Hp} {b : Addr} {o : HO} (h : H b = none) (h' : H' b = some o) (n : isTbl o = false) : vw (newA E0 H) H' (eqO (.tmp 0)) b = some o := vw_at h' n (.inr (decide_eq_true (newA_new h)))
theorem ret_frs {K : PySem.W.Frag} {E0 H H' : Hp} (nt : NtT E0 H) (h0 : Le E0 H) (g : Go (fun _ => False) E0 H E0 H') {v : V} {z : Z} (hz : Zp K (vw (newA E0 H) H' (eqO (.tmp 0))) v z) : Ret (frP K E0 H) (.frs z) v H' := ⟨_, go_new nt h0 g, hz⟩
theorem Evt.Ok.good {e : Evt} (h : e.Ok) : GoodEv e.v := by
  have is := ev_is h
  obtain ⟨t, ys, e1, _⟩ := isEv_head is
  have tk := h.tk
  have ok := h.okx
  rw [← Evt.tick_v, e1] at tk
  rw [e1] at is ok ⊢
  have is2 : (withinV (.int t) 0 999999 && thingOk ys) = true := is
  rw [Bool.and_eq_true] at is2
  exact ⟨is, ok.1, ok.2, t, ys, rfl, tk.1, tk.2, is2.2⟩
/-! ### places told of a track -/
def numsZ (l : List Nat) : List Z := l.map fun n => .int (n : Nat)
theorem zps_nums {K : PySem.W.Frag} {H : Hp} : ∀ l : List Nat, Zps K H (nums l) (numsZ l)
  | [] => .nil
  | n :: l => .cons (.int _) (zps_nums l)
def spWalkK (K : PySem.W.Frag) : Sp := fun vs H Q _ => ∃ (r : Addr) (ps : List Addr) (es : List Evt) (H0 : Hp), vs = [.ref r] ∧ Ex H0 H ∧ H0 r = some (.lst (ps.map V.ref)) ∧ EvsK K H0 ps es ∧ es.length ≤ 1000 ∧
  ∀ (t a b c : Addr) (H' : Hp), Go (fun _ => False) H0 H H0 H' → H a = none → H b = none → H c = none → b ≠ c → H' t = some (.tup [.ref a, .ref b, .ref c]) → H' a = some (.dK (rowsK (walkN es es.length).rows)) →
    H' b = some (.lst (nums (walkN es es.length).alone)) → H' c = some (.lst (nums (walkN es es.length).above)) → Q (.ref t) H'
def spTellK (K : PySem.W.Frag) (g : List Evt → List Nat) : Sp := fun vs H Q _ => ∃ (r : Addr) (ps : List Addr) (es : List Evt) (H0 : Hp), vs = [.ref r] ∧ Ex H0 H ∧ H0 r = some (.lst (ps.map V.ref)) ∧ EvsK K H0 ps es ∧ es.length ≤ 1000 ∧
  ∀ (p : Addr) (H' : Hp), Go (fun _ => False) H0 H H0 H' → H p = none → H' p = some (.lst (nums (g es))) → Q (.ref p) H'
def rzTell (g : List Evt → List Nat) : RZs := fun zs k _ => ∃ es : List Evt, zs = [trackZ es] ∧ es.length ≤ 1000 ∧ k (.frs (.lst (numsZ (g es))))
section
variable {P : Program} {w : World} {K : PySem.W.Frag} {mg : Str → Option Value} {base : Heap} {x : Str} {k : Nat}
theorem tell_z {g : List Evt → List Nat} (D : Def P w K mg base x k (spTellK K g)) : Def P w K mg base x k (spZ K mg (rzTell g)) := D.imp fun vs H Q E ⟨E0, zs, kk, e, h0, nt, hz, ⟨es, e1, hl, hk⟩, q, _⟩ => by
  subst e1
  obtain ⟨v, rfl, hv⟩ := zps_one hz
  obtain ⟨a, ps, rfl, h1, h2⟩ := track_of hv
  exact ⟨a, ps, es, E0, rfl, h0, h1, h2, hl, fun p H' g np hp => q _ hk _ _ (ret_frs nt h0 g (.lst (new_at np hp rfl) (zps_nums _)))⟩
/-- a keen track -/
theorem keen_z (D : Def P w K mg base x k spKeen) : Def P w K mg base x k (spZd K rzTrack) := track_z (D.imp fun vs H Q E ⟨d, m, H0, e1, hm, h1, h2, q⟩ => ⟨d, m, H0, e1, hm, h1, h2, fun p ps es G H' g x hp hp2 hn hev hl hok hr => by
  refine q p ps (es.map Evt.v) G H' g x hp hp2 hn hev (by rw [List.length_map]; exact hl) (fun xs hx => ?_) fun i x y e1 e2 => ?_
  · obtain ⟨e, he, rfl⟩ := List.mem_map.mp hx
    exact (hok e he).good
  · rw [List.getElem?_map] at e1 e2
    obtain ⟨u, h1, rfl⟩ := Option.map_eq_some_iff.mp e1
    obtain ⟨v, h2, rfl⟩ := Option.map_eq_some_iff.mp e2
    rw [Evt.tick_v, Evt.tick_v]
    exact hr i u v h1 h2⟩)
end
/-- rows (beginning, end) -/
def endZ : Option Nat → Z
  | none => .non
  | some e => .int (e : Nat)
def rowZ (r : Row) : Z := .tup [.int (r.1 : Nat), endZ r.2]
def spPairedK (K : PySem.W.Frag) : Sp := fun vs H Q _ => ∃ (r : Addr) (ps : List Addr) (es : List Evt) (H0 : Hp), vs = [.ref r] ∧ Ex H0 H ∧ H0 r = some (.lst (ps.map V.ref)) ∧ EvsK K H0 ps es ∧ es.length ≤ 1000 ∧ (∀ e ∈ es, e.Ok) ∧
  ∀ (t a b c : Addr) (ts : List Addr) (H' : Hp), Go (fun _ => False) H0 H H0 H' → H t = none → H a = none → H b = none → H c = none → H' t = some (.tup [.ref a, .ref b, .ref c]) → H' a = some (.lst (ts.map V.ref)) →
    Paired (fun (t : Addr) (q : Row) => H t = none ∧ H' t = some (.tup [.int (q.1 : Int), endV q.2])) ts (walkN es es.length).rows →
    H' b = some (.lst (nums (walkN es es.length).alone)) → H' c = some (.lst (nums (walkN es es.length).above)) → Q (.ref t) H'
def rzPaired : RZs := fun zs k _ => ∃ es : List Evt, zs = [trackZ es] ∧ es.length ≤ 1000 ∧ (∀ e ∈ es, e.Ok) ∧
  k (.frs (.tup [.lst ((walkN es es.length).rows.map rowZ), .lst (numsZ (walkN es es.length).alone), .lst (numsZ (walkN es es.length).above)]))
theorem end_zp {K : PySem.W.Frag} {H : Hp} : ∀ o : Option Nat, Zp K H (endV o) (endZ o)
  | none => .non
  | some e => .int _
theorem rows_zps {K : PySem.W.Frag} {H H' X : Hp} (up : ∀ b o, H b = none → H' b = some o → isTbl o = false → X b = some o) : ∀ {ts : List Addr} {rows : List Row}, Paired (fun (t : Addr) (q : Row) => H t = none ∧ H' t = some (.tup [.int (q.1 : Int), endV q.2])) ts rows → Zps K X (ts.map V.ref) (rows.map rowZ)
  | _, _, .nil => .nil
  | _, _, .cons h r => .cons (.tup (up _ _ h.1 h.2 rfl) (.cons (.int _) (.cons (end_zp _) .nil))) (rows_zps up r)
section
variable {P : Program} {w : World} {K : PySem.W.Frag} {mg : Str → Option Value} {base : Heap} {x : Str} {k : Nat}
theorem paired_z (D : Def P w K mg base x k (spPairedK K)) : Def P w K mg base x k (spZ K mg rzPaired) := D.imp fun vs H Q E ⟨E0, zs, kk, e, h0, nt, hz, ⟨es, e1, hl, hok, hk⟩, q, _⟩ => by
  subst e1
  obtain ⟨v, rfl, hv⟩ := zps_one hz
  obtain ⟨a, ps, rfl, h1, h2⟩ := track_of hv
  exact ⟨a, ps, es, E0, rfl, h0, h1, h2, hl, hok, fun t a b c ts H' g nt' na nb nc ht ha hr hb hc => q _ hk _ _ (ret_frs nt h0 g (.tup (new_at nt' ht rfl) (.cons (.lst (new_at na ha rfl) (rows_zps (fun b o h1 h2 n => new_at h1 h2 n) hr)) (.cons (.lst (new_at nb hb rfl) (zps_nums _)) (.cons (.lst (new_at nc hc rfl) (zps_nums _)) .nil)))))⟩
end
/-! ### a list several times -/
section
variable {fr : Fr} {F F' : Hp} {Γ : G} {T A : List (V × B)} {σ : L2.St} {H H' : Hp} {S S' : Addr → Own} {mg : Str → Option Value}
theorem zps_rep {K : PySem.W.Frag} {H : Hp} {vs : List V} {l : List Z} (h : Zps K H vs l) : ∀ n : Nat, Zps K H (List.replicate n vs).flatten (List.replicate n l).flatten
  | 0 => .nil
  | n + 1 => by
    rw [List.replicate_succ, List.replicate_succ, List.flatten_cons, List.flatten_cons]
    exact zps_app h (zps_rep h n)
def zRep : B → B → (B → Prop) → Prop := fun b1 b2 k => match b1.z, b2 with
  | some (.lst l), .set (.int n) => (-(2 ^ 63) ≤ n ∧ n < 2 ^ 63) ∧ l.length * n.toNat ≤ 1000000 ∧ b1.pt l (k (.own (.lst (List.replicate n.toNat l).flatten)))
  | _, _ => False
theorem s_rep : SO2 fr rRep zRep := by
  intro F Γ T σ H Q k v1 v2 b1 b2 R kq h
  unfold zRep at h
  split at h
  · rename_i l n e1
    obtain ⟨hn, hz, h⟩ := h
    obtain ⟨h, c⟩ := B.pt_ok h
    have R0 := R
    obtain ⟨S, R⟩ := R
    obtain ⟨p1, p2⟩ := Rel.two R
    have hv := zp_int p2
    subst hv
    obtain ⟨p, vs, rfl, h1, _, _⟩ := P_parts p1 e1 (.inl rfl) c
    have ln := (zp_lst (B.P.all p1 e1))
    obtain ⟨p', vs', e2, h2, h3⟩ := ln
    cases e2
    obtain rfl : vs' = vs := by have := (vw_ex _ _ h2).symm.trans (h1 rfl); cases this; rfl
    refine ⟨p, n, _, rfl, rfl, h1 rfl, hn.1, hn.2, mem_sz (by rw [h3.len]; exact hz), fun a ha => kq _ h _ _ (R0.newL ha fun S R S' H' hk hS => ?_)⟩
    obtain ⟨q1, q2⟩ := Rel.two R
    obtain ⟨p'', vs2, z, g1, _, g2⟩ := P_parts q1 e1 (.inl rfl) c
    cases z
    obtain rfl : vs2 = vs' := by have := (g1 rfl).symm.trans (h1 rfl); cases this; rfl
    exact zps_rep (g2 S' H' hk (fun x h c => (hS x h).trans (retm_set c)) fun x h c => (hS x h).trans (retm_hi (Nat.le_refl _) c)) _
  · exact h.elim
/-! ### calls with keywords -/
def zCallN (R : RZs) (ed : Ez → Prop) (za zk : ZA) : ZE := fun Γ k => za Γ fun bs => zk Γ fun cs => zrd (bs ++ cs) fun zs => R zs (resB k) ed
theorem run_callN {R : RZs} {n m : Nat} {t tk : TA} {za zk : ZA} {Q : VK} {k : B → Prop} {Ed : Ez → Prop} {E : XK} (ha : SA fr n t za) (hk : SA fr m tk zk) (R0 : Rel fr F Γ T σ H)
    (kq : ∀ b, k b → ∀ v H', Rel fr F Γ (T ++ [(v, b)]) σ H' → Q v H') (hE : Wish fr mg Ed F Γ T σ E) (q : zCallN R Ed za zk Γ k) : t σ H fun vs H1 => tk σ H1 fun zs H2 => vs.length = n ∧ zs.length = m ∧ spZ fr.K mg R (vs ++ zs) H2 Q E := by
  refine ha F Γ T σ H _ _ R0 (fun bs hb A H1 e1 e2 R1 => ?_) q
  refine hk F Γ (T ++ A) σ H1 _ _ R1 (fun cs hc A2 H2 e3 e4 R2 => ?_) hb
  rw [List.append_assoc] at R2
  have R2' := R2
  obtain ⟨S, R2⟩ := R2
  subst e1
  subst e3
  rw [← List.map_append] at hc
  obtain ⟨zs, hk, hz⟩ := zrd_ok R2 (A1 := []) (A2 := A ++ A2) rfl hc
  rw [List.map_append] at hz
  refine ⟨by rw [List.length_map]; exact e2, by rw [List.length_map]; exact e4, vw S H2 allO, zs, resB k, Ed, vw_ex, ⟨noTb_vw, R2.go.tabs⟩, hz, hk, fun b hb v H' ⟨S', g', hp⟩ => ?_, fun x hx Hb cls d H' kp r => ?_⟩
  · obtain ⟨c, h1, h2⟩ := P_res (S := S) (n := T.length) g' hp hb
    exact kq _ h1 v H' ⟨_, R2.call (b := b) g' h2⟩
  · exact hE x hx Hb cls d H' ((Rel.drop R2').grown kp) r
theorem z_callXN {W : WX} {Ed : Ez → Prop} (hW : WishW fr mg Ed W) {R : RZs} {n m : Nat} {t tk : TA} {za zk : ZA} (ha : SA fr n t za) (hk : SA fr m tk zk) : SE fr (tCallNS n m (spZ fr.K mg R) (fun vs zs => vs ++ zs) (WE W) t tk) (zCallN R Ed za zk) := fun F Γ T σ H Q k R0 kq q =>
  run_callN ha hk R0 kq (hW F Γ T σ) q
theorem sx_callN {R : RZs} {n m : Nat} {t tk : TA} {za zk : ZA} (ha : SA fr n t za) (hk : SA fr m tk zk) : SEX fr mg (fun E => tCallNS n m (spZ fr.K mg R) (fun vs zs => vs ++ zs) (fun _ => E) t tk) (fun Ed => zCallN R Ed za zk) := fun F Γ T σ H Q k E Ed R0 kq hE q =>
  run_callN ha hk R0 kq hE q
/-- none is raised -/
theorem noW {W : WX} : WishW fr mg (fun _ => False) W := fun _ _ _ _ _ h => h.elim
end
section
variable {P : Program} {w : World} {K : PySem.W.Frag} {mg : Str → Option Value} {base : Heap} {x qual : Str} {f : Addr} {fd : FuncData} {N ps : List Str} {k : Nat} {params : Arguments} {body : List Stmt} {scope : Scope} {dvs : List V} {kws : List (Str × V)}
/-- a def with defaults, that may raise -/
theorem okZXD {R : RZs} (F : FunD K x qual params body scope dvs kws f fd) (S : FnScope N ps scope) (hlen : ∀ zs k e, R zs k e → zs.length = ps.length)
    (hbody : ∀ (cdv : Value) (A : Around) (outer : List Env) (s : Shared) (H E0 : Hp) (E : XK) (Ed : Ez → Prop), Room k (A.deeper (envOfC qual scope s.heap.objs.size f cdv)) → WishW (frP K E0 H) mg Ed (fun cls d _ H => E cls d H) →
      ∃ t z, PSs (cxOf (L2.CX P w) P w K mg base N qual scope f cdv A outer s H E) body t ∧ SS (frP K E0 H) t z ∧ ∀ zs k, R zs k Ed → z (zEnd k) (startG N (zs.map B.set))) : FnOk P w K mg base (L2.CX P w) (k + 1) f fd ps (spZ K mg R) := by
  refine F.ok S (fun vs H Q E h => ?_) (fun cdv A outer s H vs Q E hr h => ?_)
  · obtain ⟨E0, zs, k, e, h1, h2, h3, h4, _⟩ := h
    rw [h3.len]
    exact hlen zs k e h4
  · obtain ⟨E0, zs, kk, e, h1, h2, h3, h4, h5, h6⟩ := h
    have hW : WishW (frP K E0 H) mg e (fun cls d _ H => E cls d H) := fun F Γ T σ x hx Hb cls d H' ⟨S, R⟩ r => h6 x hx Hb cls d H' R.go.grown r
    obtain ⟨t, z, ht, hz, hb⟩ := hbody cdv A outer s H E0 E e hr hW
    refine ⟨t, ht, hz (fun _ => none) _ _ _ (zEnd kk) _ (start_rel h1 h2 h3) ⟨fun Γ σ H' R' q => ?_, fun _ _ _ _ q => q.elim, fun _ _ _ _ q => q.elim, fun Γ v b σ H' R' q => ?_⟩ (hb zs kk h4)⟩
    · obtain ⟨S, R'⟩ := R'
      exact h5 _ q _ _ ⟨S, R'.go, .non⟩
    · obtain ⟨c, c1, c2⟩ := q
      obtain ⟨S, g1, g2, _⟩ := Rel.ret R' c1 fun S R x i h => (R.go.ownS x i h).elim id fun z => z.elim
      exact h5 c c2 _ _ ⟨S, g1, g2⟩
end
/-! ### errors by their words -/
def badTick : Ez := ⟨"BadTick", "badtick", true, []⟩
def fullE : Ez := ⟨"Full", "full", true, []⟩
def badEvent : Ez := ⟨"BadEvent", "badevent", true, []⟩
/-! ### a thing of one's own is settled -/
section
variable {fr : Fr} {F : Hp} {Γ : G} {σ : L2.St} {H : Hp}
def frzO (i : Nat) (S : Addr → Own) : Addr → Own := fun x => if S x = .slot i then .set else S x
theorem Rel.frz (hE : ∀ b o, fr.E b = some o → ¬ fr.m b) (R : Rel fr F Γ [] σ H) (i : Nat) : Rel fr F (Γ.frz i) [] σ H := by
  obtain ⟨S, R⟩ := R
  have ne : ∀ {x}, S x ≠ .slot i → frzO i S x = S x := fun h => if_neg h
  have eq : ∀ {x}, S x = .slot i → frzO i S x = .set := fun h => if_pos h
  have set_ : ∀ {x}, S x = .set → frzO i S x = .set := fun {x} h => (ne (by rw [h]; exact fun z => nomatch z)).trans h
  have lv : Le (vw S H (eqO .set)) (vw (frzO i S) H (eqO .set)) := vw_le fun x o e _ c => ⟨e, c.imp id fun c => decide_eq_true (set_ (of_decide_eq_true c))⟩
  have go : GoZ fr (frzO i S) H := by
    refine ⟨fun x o e => lv x o (R.go.up x o e), R.go.keep, R.go.there, fun b o e h => ?_, fun b j h => ?_, fun b j h => ?_, fun b h => ?_, R.go.tabs⟩
    · by_cases c : S b = .slot i
      · rcases R.go.ownS b i c with q | q
        · rw [q] at e; cases e
        · exact absurd q (hE b o e)
      · rw [ne c] at h; exact R.go.new b o e h
    · by_cases c : S b = .slot i
      · rw [eq c] at h; cases h
      · rw [ne c] at h; exact R.go.ownS b j h
    · by_cases c : S b = .slot i
      · rw [eq c] at h; cases h
      · rw [ne c] at h; exact R.go.ownT b j h
    · by_cases c : S b = .slot i
      · rw [eq c] at h; cases h
      · rw [ne c] at h; exact R.go.ownD b h
  have mv : ∀ (j : Nat) (b : B) (v : V), j ≠ i → b.brw = false → b.P fr.K S H (.slot j) v → b.P fr.K (frzO i S) H (.slot j) v := fun j b v hj hb h =>
    h.move (fun x o e _ _ => e) (fun x _ c => (ne (by rw [c]; exact fun z => nomatch z)).trans c) (fun x _ c => set_ c) (fun x _ c => (ne (by rw [c]; exact fun z => hj (by cases z; rfl))).trans c) (fun st is z e => by rw [e] at hb; cases hb) (fun k s e => by rw [e] at hb; cases hb)
  have key : ∀ z, (Γ[i]? = some (some (.own z)) ∨ Γ[i]? = some (some (.frs z)) ∨ ∃ r : Root, Γ[i]? = some (some (.two r)) ∧ r.z = z) → RelS fr F (Γ.set i (some (.set z))) [] σ H (frzO i S) := fun z hz => by
    refine ⟨go, fun x o e => lv x o (R.f x o e), by rw [List.length_set]; exact R.len, fun j b e => ?_, fun j v b e => by simp at e, fun j b e => ?_⟩
    · by_cases c : j = i
      · subst c
        have hl : j < Γ.length := hz.elim (fun h => (List.getElem?_eq_some_iff.mp h).1) fun h => h.elim (fun h => (List.getElem?_eq_some_iff.mp h).1) fun ⟨_, h, _⟩ => (List.getElem?_eq_some_iff.mp h).1
        rw [List.getElem?_set_self hl] at e
        cases e
        rcases hz with hz | hz | ⟨r, hz, rfl⟩
        · obtain ⟨v, h1, h2⟩ := R.sl j _ hz
          refine ⟨v, h1, ?_⟩
          have h3 : Zp fr.K (vw S H fun o => decide (o = .set ∨ o = .slot j)) v z := OwnP.all (decide_eq_true (.inl rfl)) (decide_eq_true (.inr rfl)) h2
          refine h3.up (vw_le fun x o e _ c => ⟨e, c.imp id fun c => decide_eq_true ?_⟩)
          rcases of_decide_eq_true c with c | c
          · exact set_ c
          · exact eq c
        · obtain ⟨v, h1, h2⟩ := R.sl j _ hz
          refine ⟨v, h1, ?_⟩
          have h3 : Zp fr.K (vw S H (eqO (.slot j))) v z := h2
          exact h3.up (vw_le fun x o e _ c => ⟨e, c.imp id fun c => decide_eq_true (eq (of_decide_eq_true c))⟩)
        · obtain ⟨v, h1, h2⟩ := R.sl j _ hz
          refine ⟨v, h1, ?_⟩
          have h3 : Zp fr.K (vw S H fun o => decide (o = .set ∨ o = .slot j)) v r.z := TwoP.all (decide_eq_true (.inl rfl)) (decide_eq_true (.inr rfl)) h2
          refine h3.up (vw_le fun x o e _ c => ⟨e, c.imp id fun c => decide_eq_true ?_⟩)
          rcases of_decide_eq_true c with c | c
          · exact set_ c
          · exact eq c
      · rw [List.getElem?_set_ne (Ne.symm c)] at e
        obtain ⟨v, h1, h2⟩ := R.sl j b e
        exact ⟨v, h1, mv j b v c (R.nb j b e) h2⟩
    · by_cases c : j = i
      · subst c
        have hl : j < Γ.length := hz.elim (fun h => (List.getElem?_eq_some_iff.mp h).1) fun h => h.elim (fun h => (List.getElem?_eq_some_iff.mp h).1) fun ⟨_, h, _⟩ => (List.getElem?_eq_some_iff.mp h).1
        rw [List.getElem?_set_self hl] at e
        cases e
        rfl
      · rw [List.getElem?_set_ne (Ne.symm c)] at e
        exact R.nb j b e
  unfold G.frz
  split
  · rename_i z hz
    exact ⟨_, key z (.inl hz)⟩
  · rename_i z hz
    exact ⟨_, key z (.inr (.inl hz))⟩
  · rename_i r hz
    exact ⟨_, key r.z (.inr (.inr ⟨r, hz, rfl⟩))⟩
  · exact ⟨S, R⟩
def zFrz (i : Nat) (z : ZS) : ZS := fun D Γ => z D (Γ.frz i)
theorem z_frzP {K : PySem.W.Frag} {E0 E : Hp} {t : TS} {z : ZS} (i : Nat) (h : SS (frP K E0 E) t z) : SS (frP K E0 E) t (zFrz i z) := fun F Γ σ H zD D R hD q => h F _ σ H zD D (R.frz (fun _ _ _ h => h) i) hD q
theorem z_frz {K : PySem.W.Frag} {t : TS} {z : ZS} (i : Nat) (h : SS (frL K) t z) : SS (frL K) t (zFrz i z) := fun F Γ σ H zD D R hD q => h F _ σ H zD D (R.frz (fun b o e => by have e : (none : Option HO) = some o := e; cases e) i) hD q
end
end Rt

set_option autoImplicit false
namespace Rt
open PySem PySem.Spec PyProof.Rows L2 RZ TL LamX
variable [TabsT]
/-! ### tracks as the document has them -/
def lastTick (es : List Evt) : Int := match es.getLast? with
  | some e => e.tick
  | none => 0
theorem last_at {es : List Evt} (h : 0 < es.length) : ∃ e, es[es.length - 1]? = some e ∧ lastTick es = e.tick := by
  refine ⟨es[es.length - 1], List.getElem?_eq_getElem (by omega), ?_⟩
  unfold lastTick
  rw [List.getLast?_eq_getElem?, List.getElem?_eq_getElem (by omega)]
theorem atI_last {α : Type} {l : List α} {x : α} (h : l[l.length - 1]? = some x) : atI l (-1) = some x := by
  have hl := (List.getElem?_eq_some_iff.mp h).1
  unfold atI ixN
  rw [if_neg (by decide), if_pos (by omega)]
  show l[((-1 : Int) + (l.length : Int)).toNat]? = some x
  rw [show ((-1 : Int) + (l.length : Int)).toNat = l.length - 1 by omega, h]
/-- a track, as the document has it -/
structure Trk (es : List Evt) : Prop where
  ok : ∀ x ∈ es, x.Ok
  up : ∀ (i : Nat) (x y : Evt), es[i]? = some x → es[i + 1]? = some y → x.tick ≤ y.tick
theorem rise_le {es : List Evt} (hr : ∀ (i : Nat) (x y : Evt), es[i]? = some x → es[i + 1]? = some y → x.tick ≤ y.tick) : ∀ (j i : Nat) (x y : Evt), es[i]? = some x → es[i + j]? = some y → x.tick ≤ y.tick
  | 0, i, x, y, h1, h2 => by
    rw [Nat.add_zero, h1] at h2
    cases h2
    exact Int.le_refl _
  | j + 1, i, x, y, h1, h2 => by
    have hl := (List.getElem?_eq_some_iff.mp h2).1
    obtain ⟨w, hw⟩ : ∃ w, es[i + j]? = some w := ⟨_, List.getElem?_eq_getElem (by omega)⟩
    exact Int.le_trans (rise_le hr j i x w h1 hw) (hr (i + j) w y hw h2)
theorem Trk.le_last {es : List Evt} (h : Trk es) {x : Evt} (hx : x ∈ es) : x.tick ≤ lastTick es := by
  obtain ⟨i, hi⟩ := List.getElem?_of_mem hx
  have hil := (List.getElem?_eq_some_iff.mp hi).1
  obtain ⟨e, h1, h2⟩ := last_at (es := es) (by omega)
  rw [h2]
  exact rise_le h.up (es.length - 1 - i) i x e hi (by rw [show i + (es.length - 1 - i) = es.length - 1 by omega]; exact h1)
theorem Trk.last_in {es : List Evt} (h : es ≠ []) : ∃ x ∈ es, x.tick = lastTick es := by
  obtain ⟨e, h1, h2⟩ := last_at (es := es) (List.length_pos_iff.mpr h)
  exact ⟨e, List.mem_of_getElem? h1, h2.symm⟩
theorem Trk.max {es : List Evt} (h : Trk es) {m : Int} (hm : IsMaxD (es.map Evt.tick) 0 m) : m = lastTick es := by
  by_cases c : es = []
  · subst c
    exact hm.1 rfl
  · obtain ⟨a, b⟩ := hm.2 fun z => c (List.map_eq_nil_iff.mp z)
    obtain ⟨x, hx, rfl⟩ := List.mem_map.mp a
    obtain ⟨y, hy, e⟩ := Trk.last_in c
    have := h.le_last hx
    have := b y.tick (List.mem_map.mpr ⟨y, hy, rfl⟩)
    omega
theorem Trk.last_ok {es : List Evt} (h : Trk es) : 0 ≤ lastTick es ∧ lastTick es ≤ 999999 := by
  by_cases c : es = []
  · subst c
    exact ⟨Int.le_refl _, by decide⟩
  · obtain ⟨y, hy, e⟩ := Trk.last_in c
    rw [← e]
    exact (h.ok y hy).tk
/-- a made track of voices -/
theorem trk_voices (n : Nat) (c d : Int) (g : Nat → Int) (hc : 0 ≤ c ∧ c ≤ 15) (hn : n ≤ 128) (hg : ∀ i, 0 ≤ g i ∧ g i ≤ (i : Int)) (hm : ∀ i, g i ≤ g (i + 1)) : Trk ((List.range n).map fun i => .voice (g i) c (i : Nat)) := by
  refine ⟨fun x hx => ?_, fun i x y h1 h2 => ?_⟩
  · obtain ⟨i, hi, rfl⟩ := List.mem_map.mp hx
    have := List.mem_range.mp hi
    have := hg i
    exact ⟨⟨by omega, by omega⟩, hc, by omega, by omega⟩
  · rw [List.getElem?_map] at h1 h2
    have key : ∀ {i : Nat} {x : Evt}, ((List.range n)[i]?.map fun i => Evt.voice (g i) c (i : Nat)) = some x → x = .voice (g i) c (i : Nat) := fun {i x} h => by
      by_cases hi : i < n
      · rw [List.getElem?_range hi] at h
        exact (Option.some.inj h).symm
      · rw [List.getElem?_eq_none (by rw [List.length_range]; omega)] at h
        cases h
    rw [key h1, key h2]
    exact hm i

theorem s3I {z : Int} (h : z.natAbs < 10 ^ 40) : Scal3 (.int z) := .inl ⟨z, rfl, h⟩
theorem thing3 {t : Int} {xs : List V} (t0 : 0 ≤ t) (t1 : t ≤ 999999) (h : thingOk xs = true) : ∃ v : Evt, .int t :: xs = v.v ∧ v.Ok := good_evt (xs := .int t :: xs) (by
  show (withinV (.int t) 0 999999 && thingOk xs) = true
  rw [h, Bool.and_true]
  show (decide (0 ≤ t) && decide (t ≤ 999999)) = true
  rw [decide_eq_true t0, decide_eq_true t1]
  rfl)
theorem ev_s3 {v : Evt} (h : v.Ok) : (∀ x ∈ v.v, Scal3 x) ∧ v.v.length ≤ 5 := by
  have w : ∀ {s : Str}, s.length ≤ 100 → PyData.strOk s = true → Scal3 (.str s) := fun h1 h2 => .inr ⟨_, rfl, h1, h2⟩
  cases v with
  | key b t c k f =>
    obtain ⟨h1, h2, h3, h4⟩ := h
    have : 0 ≤ low b := by cases b <;> decide
    refine ⟨fun x hx => ?_, by show 5 ≤ 5; decide⟩
    simp only [Evt.v, List.mem_cons, List.mem_nil_iff, or_false] at hx
    rcases hx with rfl | rfl | rfl | rfl | rfl
    · exact s3I (by omega)
    · exact w (by have := (onW_ok b).2; omega) (onW_ok b).1
    all_goals exact s3I (by omega)
  | knob t c k v =>
    obtain ⟨h1, h2, h3, h4⟩ := h
    refine ⟨fun x hx => ?_, by show 5 ≤ 5; decide⟩
    simp only [Evt.v, List.mem_cons, List.mem_nil_iff, or_false] at hx
    rcases hx with rfl | rfl | rfl | rfl | rfl
    · exact s3I (by omega)
    · exact w (by decide) (by decide +kernel)
    all_goals exact s3I (by omega)
  | voice t c v =>
    obtain ⟨h1, h2, h3⟩ := h
    refine ⟨fun x hx => ?_, by show 4 ≤ 5; decide⟩
    simp only [Evt.v, List.mem_cons, List.mem_nil_iff, or_false] at hx
    rcases hx with rfl | rfl | rfl | rfl
    · exact s3I (by omega)
    · exact w (by decide) (by decide +kernel)
    all_goals exact s3I (by omega)
  | mark t s =>
    obtain ⟨h1, h2, h3⟩ := h
    refine ⟨fun x hx => ?_, by show 3 ≤ 5; decide⟩
    simp only [Evt.v, List.mem_cons, List.mem_nil_iff, or_false] at hx
    rcases hx with rfl | rfl | rfl
    · exact s3I (by omega)
    · exact w (by decide) (by decide +kernel)
    · exact w (by omega) (strOk_signs h3)
/-- numbers and texts of an event, or of none -/
structure Odd (xs : List V) : Prop where
  sc : ∀ x ∈ xs, Scal3 x
  len : xs.length ≤ 10
theorem Odd.ev {v : Evt} (h : v.Ok) : Odd v.v := ⟨(ev_s3 h).1, Nat.le_trans (ev_s3 h).2 (by decide)⟩
theorem keptN_mem {es : List Evt} {al : List Nat} {e : Evt} : ∀ i, e ∈ keptN es al i → e ∈ es
  | 0, h => nomatch h
  | i + 1, h => by
    have h : e ∈ (if i ∈ al then keptN es al i else keptN es al i ++ (es[i]?).toList) := h
    split at h
    · exact keptN_mem i h
    · rcases List.mem_append.mp h with h | h
      · exact keptN_mem i h
      · cases q : es[i]? with
        | none => rw [q] at h; cases h
        | some x =>
          rw [q] at h
          rw [List.mem_singleton.mp h]
          exact List.mem_of_getElem? q
theorem curedE_ok {es : List Evt} {tk : Int} (h : ∀ e ∈ es, e.Ok) (ht : 0 ≤ tk ∧ tk ≤ 999999) : ∀ e ∈ curedE es tk, e.Ok := fun e he => by
  rcases List.mem_append.mp he with he | he
  · exact h e (keptN_mem _ he)
  · obtain ⟨b, hb, hx⟩ := List.mem_flatMap.mp he
    obtain ⟨t, c, k, f, hes⟩ := hung_mem hb
    rw [hes] at hx
    have hx : e ∈ [endOf (.key true t c k f) tk] := hx
    rw [List.mem_singleton.mp hx]
    obtain ⟨_, h2, h3, _⟩ := h _ (List.mem_of_getElem? hes)
    exact ⟨ht, h2, h3, by decide, by decide⟩
theorem curedE_len (es : List Evt) (tk : Int) : (curedE es tk).length ≤ 2 * es.length := by
  unfold curedE
  have h1 := keptN_len es (gLone es) es.length
  have h2 := endsN_len es tk (gHung es)
  have h3 := gHung_len es
  rw [List.length_append]
  omega
end Rt

set_option autoImplicit false
namespace Rt
open PySem PySem.Spec PyProof.Rows L2 RZ TL LamX
variable [TabsT]
/-! ### errors with a place -/
def badBytes (n : Int) : Ez := ⟨"BadBytes", "badbytes", true, [("at", n)]⟩
section
variable {P : Program} {w : World} {K : PySem.W.Frag} {mg : Str → Option Value} {base : Heap} {x z word : Str} {k : Nat} {C CT CM fI : Addr} {tape : Bool} {h : Heap} {fd : FuncData}
theorem errAZ_mk (F : ErrF K x z word C CT CM fI tape) (na : PySem.W.findIn K (.ref C) "at" = some none) (X : K.In h) (G : h.Ns mainGlobals mg) (ok : FnOk P w K mg base CX0 k fI fd ["self", "at"] (spInitAt K)) (b : Binds K fd ["self", "at"] []) : ErrAZ P w K mg base k x word tape :=
  ⟨C, CT, fI, z, fd, F.err X G, F.iC, F.tI, ok, b, F.xf, na, PySem.W.mg_of X G F.gT, PySem.W.exm_ref F.t1 F.t2 F.t3 F.t4, fun e => ⟨CM, PySem.W.mg_of X G F.gM, PySem.W.exm_ref F.u1 F.u2 F.u3 (by rw [F.u4, e]; rfl)⟩⟩
/-- where the law knows no MissingError -/
theorem errAZ_mkG (F : ErrG K x z word C fI) (na : PySem.W.findIn K (.ref C) "at" = some none) (X : K.In h) (G : h.Ns mainGlobals mg) (gT : mg "TapeError" = some (.ref CT)) (t1 : PySem.W.subIn K (.ref CT) (.type "BaseException") = some true) (t2 : PySem.W.hasDictIn K CT = true) (t3 : PySem.W.typeIn K (.ref CT) = some (.type "type"))
    (t4 : PySem.W.subIn K (.ref C) (.ref CT) = some true) (ok : FnOk P w K mg base CX0 k fI fd ["self", "at"] (spInitAt K)) (b : Binds K fd ["self", "at"] []) : ErrAZ P w K mg base k x word true :=
  ⟨C, CT, fI, z, fd, F.err X G, F.iC, F.tI, ok, b, F.xf, na, gT, PySem.W.exm_ref t1 t2 t3 t4, fun e => nomatch e⟩
end
/-! ### a lambda that is asked, the place of its bad byte told -/
def TWordZ (K : PySem.W.Frag) (mg : Str → Option Value) : (XK → Hp → VK → Prop) → Hp → VK → Prop := fun tl H Q =>
  tl (fun cls d H' => ∃ (n : Int) (Hb : Hp), RaisedZ K mg (badBytes n) Hb cls d H' ∧ ∀ p, H' p = none → Q (.ref p) (upd H' p (.tup [.non, .int n]))) H
    (fun v H' => ∀ p, H' p = none → Q (.ref p) (upd H' p (.tup [v, .int (-1)])))
section
variable {fr : Fr} {F F' : Hp} {Γ : G} {T A : List (V × B)} {σ : L2.St} {H H' : Hp} {S S' : Addr → Own} {mg : Str → Option Value}
def pairI (i : Int) (k : B → Prop) : B → Prop
  | .set z => k (.set (.tup [z, .int i]))
  | .frs z => k (.frs (.tup [z, .int i]))
  | _ => False
theorem Rel.pairI {i : Int} {v : V} {b : B} {k : B → Prop} (R : Rel fr F Γ (T ++ [(v, b)]) σ H) (q : pairI i k b) {p : Addr} (hp : H p = none) : ∃ c, k c ∧ Rel fr F Γ (T ++ [(.ref p, c)]) σ (upd H p (.tup [v, .int i])) := by
  cases b with
  | set z =>
    refine ⟨_, q, Rel.newT R hp fun S R S' H' hk hS => .cons ?_ (.cons (.int _) .nil)⟩
    have hv : Zp fr.K (vw S H (eqO .set)) v z := fstP R
    exact hv.up (vw_le fun x o e n c => ⟨hk x o e n, c.imp id fun c => decide_eq_true ((hS x (by rw [e]; simp)).trans (retm_set (of_decide_eq_true c)))⟩)
  | frs z =>
    obtain ⟨S, R⟩ := R
    have hv : Zp fr.K (vw S H (eqO (.tmp T.length))) v z := fstP R
    have hS : ∀ x, H x ≠ none → newO p (.tmp T.length) (retm T.length (.tmp T.length) S) x = retm T.length (.tmp T.length) S x := fun x h => newO_ne fun z => h (z ▸ hp)
    refine ⟨_, q, _, R.alloc hp (.inr rfl) (.inr rfl) (b := .frs (.tup [z, .int i])) (.tup (vw_at upd_same rfl (.inl rfl)) (.cons ?_ (.cons (.int _) .nil)))⟩
    exact hv.up (vw_le fun x o e n c => ⟨(upd_ne (ne_of_none e hp)).trans e, c.imp id fun c => decide_eq_true ((hS x (by rw [e]; simp)).trans (retm_hi (Nat.le_refl _) (of_decide_eq_true c)))⟩)
  | _ => exact q.elim
def zWord (z : (Ez → Prop) → ZE) : ZE := fun Γ k => z (fun x => ∃ n : Int, x = badBytes n ∧ k (.set (.tup [.non, .int n]))) Γ (pairI (-1) k)
theorem z_word {K : PySem.W.Frag} {t : XK → TE} {z : (Ez → Prop) → ZE} (h : SEX (frL K) mg t z) : SE (frL K) (tUpE (tLam TabsT.T (TWordZ K mg) t)) (zWord z) := by
  intro F Γ T σ H Q k R kq q
  refine ⟨fun v H1 => ∃ b, k b ∧ Rel (frL K) F Γ (T ++ [(v, b)]) σ H1, ⟨?_, fun H1 eN hT1 => ?_⟩, fun v H1 ⟨b, hb, R'⟩ => kq b hb v H1 R'⟩
  · obtain ⟨S, R⟩ := R
    exact R.go.tabs
  · have R1 := R.extN eN hT1
    refine h F Γ T σ H1 _ _ _ _ R1 (fun b hb v H2 R2 p hp => ?_) (fun x hx Hb cls d H2 Rb r => ?_) q
    · obtain ⟨c, hc, R3⟩ := Rel.pairI R2 hb hp
      exact ⟨c, hc, R3⟩
    · obtain ⟨n, rfl, hx⟩ := hx
      refine ⟨n, Hb, r, fun p hp => ?_⟩
      have hr := r
      obtain ⟨C, CT, dd, _, _, _, hdd, e, _⟩ := hr
      have R3 : Rel (frL K) F Γ T σ H2 := Rb.grow fun b o h => by rw [e, upd_ne (ne_of_none h hdd)]; exact h
      exact ⟨_, hx, Rel.newT (A := []) (by rw [List.append_nil]; exact R3) hp fun _ _ _ _ _ _ => .cons .non (.cons (.int _) .nil)⟩
end
/-! ### gaps -/
/-- the reading of a gap at a place, num so far -/
def rdW (least most : Int) : List Nat → Nat → Nat → Nat × Nat × Bool
  | [], pl, _ => (0, pl, false)
  | b :: l, pl, num => if b < 128 then (if least ≤ ((num * 128 + b % 128 : Nat) : Int) ∧ ((num * 128 + b % 128 : Nat) : Int) ≤ most then (num * 128 + b % 128, pl + 1, true) else (0, pl, false))
    else if 0 < num * 128 + b % 128 ∧ (((num * 128 + b % 128) * 128 : Nat) : Int) ≤ most then rdW least most l (pl + 1) (num * 128 + b % 128) else (0, pl, false)
def gapW (row : List Nat) (at_ : Nat) (least most : Int) : Nat × Nat × Bool := rdW least most (row.drop at_) at_ 0
theorem drop_cons {l : List Nat} {i b : Nat} (h : l[i]? = some b) : l.drop i = b :: l.drop (i + 1) := by
  obtain ⟨hi, e⟩ := List.getElem?_eq_some_iff.mp h
  rw [List.drop_eq_getElem_cons hi, e]
theorem nums_atZ {row : List Nat} {i b : Nat} (h : row[i]? = some b) : atI (numsZ row) (i : Int) = some (.int (b : Nat)) := at_n rfl (by unfold numsZ; rw [List.getElem?_map, h]; rfl)
theorem numsZ_len (l : List Nat) : (numsZ l).length = l.length := List.length_map ..
theorem numsZ_imm : ∀ l : List Nat, Z.imms (numsZ l) = true
  | [] => rfl
  | _ :: l => numsZ_imm l
theorem numsZ_app (l m : List Nat) : numsZ l ++ numsZ m = numsZ (l ++ m) := (List.map_append ..).symm
theorem rdW_pl {least most : Int} : ∀ (l : List Nat) (pl num n q : Nat) (b : Bool), rdW least most l pl num = (n, q, b) → pl ≤ q ∧ q ≤ pl + l.length
  | [], pl, num, n, q, b, h => by
    cases h
    exact ⟨Nat.le_refl _, Nat.le_refl _⟩
  | c :: l, pl, num, n, q, b, h => by
    unfold rdW at h
    rw [List.length_cons]
    split at h
    · split at h
      · cases h; exact ⟨by omega, by omega⟩
      · cases h; exact ⟨by omega, by omega⟩
    · split at h
      · have := rdW_pl l _ _ n q b h
        omega
      · cases h; exact ⟨by omega, by omega⟩
def rzGapB : RZs := fun zs k _ => ∃ n : Nat, zs = [.int (n : Int)] ∧ n < 268435456 ∧ k (.frs (.lst (numsZ (gapB n))))
section
variable {P : Program} {w : World} {K : PySem.W.Frag} {mg : Str → Option Value} {base : Heap} {x : Str} {k : Nat}
theorem gapB_z (D : Def P w K mg base x k spGapBytes) : Def P w K mg base x k (spZ K mg rzGapB) := D.imp fun vs H Q E ⟨E0, zs, kk, e, h0, nt, hz, ⟨n, e1, hl, hk⟩, q, _⟩ => by
  subst e1
  obtain ⟨v, rfl, hv⟩ := zps_one hz
  have := zp_int hv
  subst this
  exact ⟨n, E0, rfl, hl, h0, fun p H' g np hp => q _ hk _ _ (ret_frs nt h0 g (.lst (new_at np hp rfl) (zps_nums _)))⟩
end
/-- some bytes of a row changed: a new row of bytes, not much longer -/
def spBent : Sp := fun vs H Q _ => ∃ (d r : Addr) (row : List Nat) (H0 : Hp), vs = [.ref d, .ref r] ∧ Ex H0 H ∧ Dr H0 H d ∧ H0 r = some (.lst (nums row)) ∧ row.length ≤ 10000 ∧ (∀ b ∈ row, b < 256) ∧
  ∀ (p : Addr) (row' : List Nat) (H0' H' : Hp), Go (· = d) H0 H H0' H' → Dr H0' H' d → H p = none → H0' p = some (.lst (nums row')) → row'.length ≤ 4 * row.length + 3 → (∀ b ∈ row', b < 256) → Q (.ref p) H'
def rzBent : List Z → (B → Prop) → Prop := fun zs k => ∃ row : List Nat, zs = [.lst (numsZ row)] ∧ row.length ≤ 10000 ∧ (∀ b ∈ row, b < 256) ∧ ∀ row' : List Nat, row'.length ≤ 4 * row.length + 3 → (∀ b ∈ row', b < 256) → k (.set (.lst (numsZ row')))
theorem zps_numsI {K : PySem.W.Frag} {H : Hp} : ∀ {l : List Nat} {vs : List V}, Zps K H vs (numsZ l) → vs = nums l
  | [], _, h => by cases h; rfl
  | n :: l, _, h => by
    cases h with
    | cons a b =>
      rw [zp_int a, zps_numsI b]
      rfl
theorem row_of {K : PySem.W.Frag} {H : Hp} {v : V} {l : List Nat} (h : Zp K H v (.lst (numsZ l))) : ∃ a, v = .ref a ∧ H a = some (.lst (nums l)) := by
  obtain ⟨a, vs, rfl, h1, h2⟩ := zp_lst h
  rw [zps_numsI h2] at h1
  exact ⟨a, rfl, h1⟩
section
variable {P : Program} {w : World} {K : PySem.W.Frag} {mg : Str → Option Value} {base : Heap} {x : Str} {k : Nat}
theorem bent_z (D : Def P w K mg base x k spBent) : Def P w K mg base x k (spZd K rzBent) := D.imp fun vs H Q E ⟨E0, d, ws, zs, kk, e1, h1, h2, h3, h4, ⟨row, e2, hl, hb, hk⟩, q⟩ => by
  subst e2
  obtain ⟨v, rfl, hv⟩ := zps_one h3
  obtain ⟨a, rfl, ha⟩ := row_of hv
  subst e1
  refine ⟨d, a, row, E0, rfl, h1, h4, ha, hl, hb, fun p row' G' H' g x np hp hl' hb' => ?_⟩
  obtain ⟨g1, g2, g3⟩ := go_z (K := K) h2 h4 g x
  exact q _ (hk row' hl' hb') _ _ _ g1 (.lst (g3 _ _ hp rfl) (zps_nums _)) g2
end
/-! ### a gap that is written is read -/
theorem val_app (l : List Nat) : ∀ m : List Nat, val l ≤ val (l ++ m)
  | [] => by rw [List.append_nil]; exact Nat.le_refl _
  | b :: m => by
    have h := val_app (l ++ [b]) m
    rw [List.append_assoc, val_snoc] at h
    have : val l ≤ val l * 128 + b % 128 := by omega
    exact Nat.le_trans this h
theorem val_take (g : List Nat) (i : Nat) : val (g.take i) ≤ val g := by
  have := val_app (g.take i) (g.drop i)
  rwa [List.take_append_drop] at this
theorem val_take1 {g : List Nat} {i b : Nat} (h : g[i]? = some b) : val (g.take (i + 1)) = val (g.take i) * 128 + b % 128 := by
  rw [List.take_add_one, h]
  exact val_snoc _ _
theorem gap_pos {n : Nat} (i : Nat) (h : i + 1 < (gapB n).length) : 0 < val ((gapB n).take (i + 1)) := by
  induction i with
  | zero =>
    have hb : (gapB n)[0]? = some (gapB n)[0] := List.getElem?_eq_getElem (by omega)
    rw [val_take1 hb]
    have h1 := gapB_mid hb h
    have h2 := gapB_head hb h1
    have h3 := gapB_all n _ (List.mem_of_getElem? hb)
    omega
  | succ i ih =>
    have hb : (gapB n)[i + 1]? = some (gapB n)[i + 1] := List.getElem?_eq_getElem (by omega)
    rw [val_take1 hb]
    have := ih (by omega)
    omega
theorem rdW_gap {n : Nat} (hn : n < 268435456) (rest : List Nat) (p : Nat) : ∀ (k i : Nat), i + k + 1 = (gapB n).length → rdW 0 268435455 ((gapB n).drop i ++ rest) (p + i) (val ((gapB n).take i)) = (n, p + (gapB n).length, true)
  | 0, i, h => by
    have hb : (gapB n)[i]? = some (gapB n)[i] := List.getElem?_eq_getElem (by omega)
    have v := val_take1 hb
    rw [show i + 1 = (gapB n).length by omega, List.take_length, val_gapB] at v
    rw [drop_cons hb, List.cons_append]
    unfold rdW
    rw [if_pos (gapB_end hb (by omega)), ← v, if_pos ⟨by omega, by omega⟩]
    rw [show p + i + 1 = p + (gapB n).length by omega]
  | k + 1, i, h => by
    have hb : (gapB n)[i]? = some (gapB n)[i] := List.getElem?_eq_getElem (by omega)
    have hb2 : (gapB n)[i + 1]? = some (gapB n)[i + 1] := List.getElem?_eq_getElem (by omega)
    have v := val_take1 hb
    have v2 := val_take1 hb2
    have v3 := val_take (gapB n) (i + 1 + 1)
    have v4 := gap_pos (n := n) i (by omega)
    rw [val_gapB] at v3
    have mid := gapB_mid hb (by omega)
    rw [drop_cons hb, List.cons_append]
    unfold rdW
    rw [if_neg (by omega), ← v, if_pos ⟨v4, by omega⟩]
    exact rdW_gap hn rest p k (i + 1) (by omega)
theorem gapW_ok {n : Nat} (hn : n < 268435456) (pre rest : List Nat) : gapW (pre ++ (gapB n ++ rest)) pre.length 0 268435455 = (n, pre.length + (gapB n).length, true) := by
  unfold gapW
  rw [List.drop_left]
  have := gapB_pos n
  exact rdW_gap hn rest pre.length ((gapB n).length - 1) 0 (by omega)
/-! ### what is never come to -/
section
variable {fr : Fr}
def zNever : ZS := fun _ _ => False
theorem z_never : SS fr tNever zNever := fun _ _ _ _ _ _ _ _ h => h.elim
end
section
variable {P : Program} {w : World} {K : PySem.W.Frag} {mg : Str → Option Value} {base : Heap} {x qual : Str} {f : Addr} {fd : FuncData} {N ps : List Str} {k : Nat} {params : Arguments} {body : List Stmt} {scope : Scope} {dvs : List V} {kws : List (Str × V)}
/-- a def with defaults, that raises nothing -/
theorem okZD {R : RZs} (F : FunD K x qual params body scope dvs kws f fd) (S : FnScope N ps scope) (hlen : ∀ zs k e, R zs k e → zs.length = ps.length)
    (hbody : ∀ (cdv : Value) (A : Around) (outer : List Env) (s : Shared) (H E0 : Hp) (E : XK), Room k (A.deeper (envOfC qual scope s.heap.objs.size f cdv)) →
      ∃ t z, PSs (cxOf CX0 P w K mg base N qual scope f cdv A outer s H E).nox body t ∧ SS (frP K E0 H) t z ∧ ∀ zs k, R zs k (fun _ => False) → z (zEnd k) (startG N (zs.map B.set))) (hno : ∀ zs k e, R zs k e → R zs k (fun _ => False)) : FnOk P w K mg base CX0 (k + 1) f fd ps (spZ K mg R) := by
  refine okD0 F S (fun vs H Q E h => ?_) (fun cdv A outer s H vs Q E hr h => ?_)
  · obtain ⟨E0, zs, k, e, h1, h2, h3, h4, _⟩ := h
    rw [h3.len]
    exact hlen zs k e h4
  · obtain ⟨E0, zs, kk, e, h1, h2, h3, h4, h5, _⟩ := h
    obtain ⟨t, z, ht, hz, hb⟩ := hbody cdv A outer s H E0 E hr
    refine ⟨t, ht, hz (fun _ => none) _ _ _ (zEnd kk) _ (start_rel h1 h2 h3) ⟨fun Γ σ H' R' q => ?_, fun _ _ _ _ q => q.elim, fun _ _ _ _ q => q.elim, fun Γ v b σ H' R' q => ?_⟩ (hb zs kk (hno _ _ _ h4))⟩
    · obtain ⟨S, R'⟩ := R'
      exact h5 _ q _ _ ⟨S, R'.go, .non⟩
    · obtain ⟨c, c1, c2⟩ := q
      obtain ⟨S, g1, g2, _⟩ := Rel.ret R' c1 fun S R x i h => (R.go.ownS x i h).elim id fun z => z.elim
      exact h5 c c2 _ _ ⟨S, g1, g2⟩
end
def spNumbers : Sp := fun vs H Q _ => ∃ (r : Addr) (ns : List Nat) (H0 : Hp), vs = [.ref r] ∧ Ex H0 H ∧ H0 r = some (.lst (nums ns)) ∧ ns.length ≤ 1000000 ∧ ∀ (H' : Hp), Go (fun _ => False) H0 H H0 H' → Q (.bl true) H'
def rzNumbers : RZs := fun zs k _ => ∃ l : List Nat, zs = [.lst (numsZ l)] ∧ l.length ≤ 1000000 ∧ k (.set (.bl true))
section
variable {P : Program} {w : World} {K : PySem.W.Frag} {mg : Str → Option Value} {base : Heap} {x : Str} {k : Nat}
theorem numbers_z (D : Def P w K mg base x k spNumbers) : Def P w K mg base x k (spZ K mg rzNumbers) := D.imp fun vs H Q E ⟨E0, zs, kk, e, h0, nt, hz, ⟨l, e1, hl, hk⟩, q, _⟩ => by
  subst e1
  obtain ⟨v, rfl, hv⟩ := zps_one hz
  obtain ⟨a, rfl, ha⟩ := row_of hv
  exact ⟨a, l, E0, rfl, h0, ha, hl, fun H' g => q _ hk _ _ ⟨_, go_p nt h0 g, .bl true⟩⟩
end
end Rt

set_option autoImplicit false
namespace Rt
open PySem PySem.Spec PyProof.Rows L2 RZ TL LamX
variable [TabsT]
/-! ### objects: their fields -/
def fldZ (ns : List Str) (l : List Z) (f : Str) : Option Z := (ns.zip l).lookup f
theorem fld_at {K : PySem.W.Frag} {H : Hp} : ∀ {ns : List Str} {vs : List V} {l : List Z} {f : Str} {y : Z}, Zps K H vs l → fldZ ns l f = some y → ∃ v, (ns.zip vs).lookup f = some v ∧ Zp K H v y
  | [], _, _, _, _, _, e => by cases e
  | n :: ns, _, _, f, y, .nil, e => by cases e
  | n :: ns, v :: vs, z :: l, f, y, .cons a b, e => by
    have e : (match f == n with | true => some z | false => (ns.zip l).lookup f) = some y := e
    show ∃ w, (match f == n with | true => some v | false => (ns.zip vs).lookup f) = some w ∧ Zp K H w y
    cases c : f == n with
    | true => rw [c] at e; cases e; exact ⟨v, rfl, a⟩
    | false => rw [c] at e; exact fld_at b e
section
variable {fr : Fr} {F F' : Hp} {Γ : G} {T A : List (V × B)} {σ : L2.St} {H H' : Hp} {S S' : Addr → Own} {mg : Str → Option Value}
theorem zp_obj {K : PySem.W.Frag} {H : Hp} {v : V} {C : Addr} {ns : List Str} {l : List Z} (h : Zp K H v (.obj C ns l)) : ∃ a dx vs, v = .ref a ∧ H a = some (.ins C dx (ns.zip vs)) ∧ H dx = some (.own a) ∧ ns.length = vs.length ∧ Zps K H vs l := by
  cases h with
  | obj a b c d => exact ⟨_, _, _, rfl, a, b, c, d⟩
/-- a field of a binding's object -/
theorem P_fld {K : PySem.W.Frag} {S : Addr → Own} {H : Hp} {me : Own} {v : V} {b : B} {C : Addr} {ns : List Str} {l : List Z} (h : b.P K S H me v) (hz : b.z = some (.obj C ns l)) {f : Str} {y : Z} (e : fldZ ns l f = some y) :
    ∃ p dx fs w, v = .ref p ∧ H p = some (.ins C dx fs) ∧ fs.lookup f = some w ∧ (b.sub y).P K S H me w := by
  have gen : ∀ {q : Own → Bool} {z : Z}, z = .obj C ns l → Zp K (vw S H q) v z → ∃ p dx fs w, v = .ref p ∧ H p = some (.ins C dx fs) ∧ fs.lookup f = some w ∧ Zp K (vw S H q) w y := fun {q z} ez h => by
    subst ez
    obtain ⟨a, dx, vs, rfl, h1, _, _, h4⟩ := zp_obj h
    obtain ⟨w, h5, h6⟩ := fld_at h4 e
    exact ⟨a, dx, _, w, rfl, vw_ex _ _ h1, h5, h6⟩
  have sc : ∀ {w : V} {q : Own → Bool} {c : B}, Zp K (vw S H q) w y → c = .set y → y.imm = true → c.P K S H me w := fun h e i => by rw [e]; exact h.imm vw_tup i
  cases b with
  | set x => cases hz; exact gen rfl h
  | frs x =>
    cases hz
    obtain ⟨p, dx, fs, w, h1, h2, h3, h4⟩ := gen rfl h
    refine ⟨p, dx, fs, w, h1, h2, h3, ?_⟩
    cases y with
    | int _ => exact sc h4 rfl rfl
    | str _ => exact sc h4 rfl rfl
    | bl _ => exact sc h4 rfl rfl
    | non => exact sc h4 rfl rfl
    | _ => exact h4
  | bor st is x =>
    cases hz
    obtain ⟨p, dx, fs, w, h1, h2, h3, h4⟩ := gen rfl h
    refine ⟨p, dx, fs, w, h1, h2, h3, ?_⟩
    cases y with
    | int _ => exact sc h4 rfl rfl
    | str _ => exact sc h4 rfl rfl
    | bl _ => exact sc h4 rfl rfl
    | non => exact sc h4 rfl rfl
    | _ => exact h4
  | two r =>
    have hz : r.z = .obj C ns l := Option.some.inj hz
    have hB : Zp K (vw S H (borO true [] me)) v r.z := TwoP.all (by unfold borO; simp) (by unfold borO; simp) h
    obtain ⟨p, dx, fs, w, h1, h2, h3, h4⟩ := gen hz hB
    refine ⟨p, dx, fs, w, h1, h2, h3, ?_⟩
    cases y with
    | int _ => exact sc h4 rfl rfl
    | str _ => exact sc h4 rfl rfl
    | bl _ => exact sc h4 rfl rfl
    | non => exact sc h4 rfl rfl
    | _ => exact h4
  | own x =>
    cases hz
    obtain ⟨a, dx, vs, rfl, s, s', h1, h2, h3, h4⟩ := h
    obtain ⟨w, h5, h6⟩ := fld_at h4 e
    exact ⟨a, dx, _, w, rfl, h1, h5, h6⟩
  | _ => cases hz
/-- e.f -/
def zFld (C : Addr) (f : Str) (z : ZE) : ZE := fun Γ k => z Γ fun b => match b.z with
  | some (.obj D ns l) => D = C ∧ ∃ y, fldZ ns l f = some y ∧ k (b.sub y)
  | _ => False
theorem z_fld {C : Addr} {f : Str} {t : TE} {z : ZE} (hc : Cls fr.K C) (hn : NoAttr fr.K C f) (h : SE fr t z) : SE fr (tFld fr.K t f) (zFld C f z) := fun F Γ T σ H Q k R kq q => h F Γ T σ H _ _ R (fun b hb v H1 R1 => by
  split at hb
  · rename_i D ns l e
    obtain ⟨rfl, y, hy, hk⟩ := hb
    obtain ⟨S, R1⟩ := R1
    obtain ⟨p, dx, fs, w, rfl, h1, h2, h3⟩ := P_fld (fstP R1) e hy
    exact ⟨p, D, dx, fs, w, rfl, h1, hc, hn, h2, kq _ hk _ _ ⟨S, R1.same h3⟩⟩
  · exact hb.elim) q
theorem fld_no {K : PySem.W.Frag} {H : Hp} : ∀ {ns : List Str} {vs : List V} {l : List Z} {f : Str}, Zps K H vs l → fldZ ns l f = none → (ns.zip vs).lookup f = none
  | [], _, _, _, _, _ => rfl
  | n :: ns, _, _, f, .nil, _ => rfl
  | n :: ns, v :: vs, z :: l, f, .cons a b, e => by
    have e : (match f == n with | true => some z | false => (ns.zip l).lookup f) = none := e
    show (match f == n with | true => some v | false => (ns.zip vs).lookup f) = none
    cases c : f == n with
    | true => rw [c] at e; cases e
    | false => rw [c] at e; exact fld_no b e
/-- e.m(..), a method that turns nothing -/
def zMeth (C : Addr) (m : Str) (R : RZs) (dz : List Z) (ed : Ez → Prop) (ze : ZE) (za : ZA) : ZE := fun Γ k => ze Γ fun b => match b.z with
  | some (.obj D ns l) => D = C ∧ fldZ ns l m = none ∧ za Γ fun bs => zrd (b :: bs) fun zs => R (zs ++ dz) (resB k) ed
  | _ => False
theorem run_meth {C : Addr} {m : Str} {R : RZs} {n : Nat} {te : TE} {t : TA} {ze : ZE} {za : ZA} {dvs : List V} {dz : List Z} {Q : VK} {k : B → Prop} {Ed : Ez → Prop} {E : XK} (he : SE fr te ze) (ha : SA fr n t za) (hd : Zps fr.K (fun _ => none) dvs dz) (R0 : Rel fr F Γ T σ H)
    (kq : ∀ b, k b → ∀ v H', Rel fr F Γ (T ++ [(v, b)]) σ H' → Q v H') (hE : Wish fr mg Ed F Γ T σ E) (q : zMeth C m R dz Ed ze za Γ k) : tMeth C m (spZ fr.K mg R) dvs E te t σ H Q := by
  refine he F Γ T σ H _ _ R0 (fun b hb v H1 R1 => ?_) q
  split at hb
  · rename_i D ns l e
    obtain ⟨rfl, hno, hb⟩ := hb
    obtain ⟨a, dx, vs, rfl, h1, _, _, h4⟩ := zp_obj (R1.zp (j := 0) rfl e)
    refine ⟨a, dx, _, rfl, h1, fld_no h4 hno, ?_⟩
    refine ha F Γ _ σ H1 _ _ R1 (fun bs hb A H2 e1 e2 R2 => ?_) hb
    rw [List.append_assoc] at R2
    have R2' := R2
    obtain ⟨S, R2⟩ := R2
    subst e1
    obtain ⟨zs, hk, hz⟩ := zrd_ok R2 (A1 := []) (A2 := [(V.ref a, b)] ++ A) rfl hb
    refine ⟨vw S H2 allO, zs ++ dz, resB k, Ed, vw_ex, ⟨noTb_vw, R2.go.tabs⟩, zps_app hz (hd.up fun b o e => by cases e), hk, fun b hb v H' ⟨S', g', hp⟩ => ?_, fun x hx Hb cls d H' kp r => ?_⟩
    · obtain ⟨c, h1, h2⟩ := P_res (S := S) (n := T.length) g' hp hb
      exact kq _ h1 v H' ⟨_, R2.call (b := b) g' h2⟩
    · exact hE x hx Hb cls d H' ((Rel.drop R2').grown kp) r
  · exact hb.elim
theorem noE {F : Hp} {Γ : G} {T : List (V × B)} {σ : L2.St} {E : XK} : Wish fr mg (fun _ => False) F Γ T σ E := fun x h => h.elim
theorem z_meth {C : Addr} {m : Str} {R : RZs} {n : Nat} {te : TE} {t : TA} {ze : ZE} {za : ZA} {dvs : List V} {dz : List Z} {E : XK} (he : SE fr te ze) (ha : SA fr n t za) (hd : Zps fr.K (fun _ => none) dvs dz) : SE fr (tMeth C m (spZ fr.K mg R) dvs E te t) (zMeth C m R dz (fun _ => False) ze za) := fun F Γ T σ H Q k R0 kq q =>
  run_meth he ha hd R0 kq noE q
/-! ### things of one's own with children: turned -/
theorem ChP.upd {K : PySem.W.Frag} {S : Addr → Own} {H : Hp} {me : Own} {v : V} {oa : Option Addr} {c : Ch} {p : Addr} {o' : HO} (h : ChP K S H me v oa c) (m : Le (vw S H (eqO .set)) (vw S (upd H p o') (eqO .set))) (n : oa ≠ some p) : ChP K S (upd H p o') me v oa c := by
  have key : ∀ {a : Addr} {o : HO}, oa = some a → H a = some o → L2.upd H p o' a = some o := fun {a o} e h => (upd_ne fun z => n (by rw [e, z])).trans h
  cases c with
  | s z => exact ⟨h.1, h.2.up m⟩
  | l zs => obtain ⟨a, vs, e, rfl, s, h1, h2⟩ := h; exact ⟨a, vs, e, rfl, s, key e h1, h2.up m⟩
  | k ks zs => obtain ⟨a, vs, e, rfl, s, h1, h2, h3⟩ := h; exact ⟨a, vs, e, rfl, s, key e h1, h2, h3.up m⟩
  | t ks zs => obtain ⟨a, vs, e, rfl, s, h1, h2, h3⟩ := h; exact ⟨a, vs, e, rfl, s, key e h1, h2, h3.up m⟩
theorem cells_no {as : List (Option Addr)} {p : Addr} (h : p ∉ cells as) : ∀ oa ∈ as, oa ≠ some p := fun oa ho e => h (List.mem_filterMap.mpr ⟨oa, ho, e⟩)
theorem ChPs.upd {K : PySem.W.Frag} {S : Addr → Own} {H : Hp} {me : Own} {p : Addr} {o' : HO} (m : Le (vw S H (eqO .set)) (vw S (L2.upd H p o') (eqO .set))) : ∀ {vs : List V} {as : List (Option Addr)} {cs : List Ch}, (∀ oa ∈ as, oa ≠ some p) → ChPs K S H me vs as cs → ChPs K S (L2.upd H p o') me vs as cs
  | [], [], [], _, _ => True.intro
  | _ :: _, _ :: _, _ :: _, n, ⟨h, r⟩ => ⟨h.upd m (n _ (.head _)), ChPs.upd m (fun oa ho => n oa (.tail _ ho)) r⟩
  | [], [], _ :: _, _, h => h.elim
  | [], _ :: _, _, _, h => by cases ‹List Ch› <;> exact h.elim
  | _ :: _, [], _, _, h => by cases ‹List Ch› <;> exact h.elim
  | _ :: _, _ :: _, [], _, h => h.elim
/-- one's own cell p turned, the slot's thing anew -/
theorem RelS.two (R : RelS fr F Γ [] σ H S) {i : Nat} {v : V} {p : Addr} {o o' : HO} {r : Root} (hv : σ[i]? = some (some v)) (hi : i < Γ.length) (hp : H p = some o) (n1 : isTup o = false) (n2 : isTbl o = false) (n3 : ∀ c q, o ≠ CodeO c q) (hs : S p = .slot i)
    (h : Le (vw S H (eqO .set)) (vw S (upd H p o') (eqO .set)) → TwoP fr.K S (upd H p o') (.slot i) v r) : Rel fr F (Γ.set i (some (.two r))) [] σ (upd H p o') := by
  have M := R.mut (o' := o') hp n1 n2 n3 hs (fun z => nomatch z) (fun z => nomatch z) (fun z => nomatch z)
  refine ⟨S, M.go, M.f, by rw [List.length_set]; exact R.len, fun j b e => ?_, fun j v b e => by simp at e, fun j b e => ?_⟩
  · rcases slot_set e with ⟨rfl, rfl, hl⟩ | ⟨hj, e⟩
    · exact ⟨_, hv, h M.z⟩
    · obtain ⟨v, g1, g2⟩ := R.sl j b e
      refine ⟨v, g1, M.b _ v b g2 (fun z => hj (by cases z; rfl)) (fun st is z eb => by have := R.nb j b e; rw [eb] at this; cases this) fun i s eb => by have := R.nb j b e; rw [eb] at this; cases this⟩
  · rcases slot_set e with ⟨_, e, _⟩ | ⟨_, e⟩
    · rw [e]; rfl
    · exact R.nb j b e
/-- a value that becomes a child of the slot's thing -/
def adO (i : Nat) (S : Addr → Own) : Addr → Own := fun x => if S x = .tmp 0 then .slot i else S x
theorem adO_tmp {i : Nat} {x : Addr} (h : S x = .tmp 0) : adO i S x = .slot i := if_pos h
theorem adO_ne {i : Nat} {x : Addr} (h : S x ≠ .tmp 0) : adO i S x = S x := if_neg h
theorem RelS.adopt {v : V} {b : B} (R : RelS fr F Γ [(v, b)] σ H S) (i : Nat) : RelS fr F Γ [] σ H (adO i S) ∧ (∀ oa c, ChP fr.K S H (.tmp 0) v oa c → ChP fr.K (adO i S) H (.slot i) v oa c) ∧ (∀ w r, TwoP fr.K S H (.slot i) w r → TwoP fr.K (adO i S) H (.slot i) w r) := by
  have st : ∀ {x}, S x = .set → adO i S x = .set := fun h => (adO_ne (by rw [h]; exact fun z => nomatch z)).trans h
  have sl : ∀ {x j}, S x = .slot j → adO i S x = .slot j := fun h => (adO_ne (by rw [h]; exact fun z => nomatch z)).trans h
  have m : Le (vw S H (eqO .set)) (vw (adO i S) H (eqO .set)) := vw_le fun x o e _ c => ⟨e, c.imp id fun c => decide_eq_true (st (of_decide_eq_true c))⟩
  refine ⟨⟨⟨fun x o e => m x o (R.go.up x o e), R.go.keep, R.go.there, fun x o e h => ?_, fun x j h => ?_, fun x j h => ?_, fun x h => ?_, R.go.tabs⟩, fun x o e => m x o (R.f x o e), R.len, fun j c e => ?_, fun j w c e => by simp at e, R.nb⟩, fun oa c h => ?_, fun w r h => ?_⟩
  · by_cases c : S x = .tmp 0
    · rw [R.go.ownT x 0 c] at e; cases e
    · rw [adO_ne c] at h; exact R.go.new x o e h
  · by_cases c : S x = .tmp 0
    · exact .inl (R.go.ownT x 0 c)
    · rw [adO_ne c] at h; exact R.go.ownS x j h
  · by_cases c : S x = .tmp 0
    · rw [adO_tmp c] at h; cases h
    · rw [adO_ne c] at h; exact R.go.ownT x j h
  · by_cases c : S x = .tmp 0
    · rw [adO_tmp c] at h; cases h
    · rw [adO_ne c] at h; exact R.go.ownD x h
  · obtain ⟨w, h1, h2⟩ := R.sl j c e
    have nb := R.nb j c e
    exact ⟨w, h1, h2.move (fun x o e _ _ => e) (fun x _ h => (adO_ne (by rw [h]; exact fun z => nomatch z)).trans h) (fun x _ h => st h) (fun x _ h => sl h) (fun st is z eb => by rw [eb] at nb; cases nb) fun k s eb => by rw [eb] at nb; cases nb⟩
  · exact h.move m fun a o e n s => ⟨adO_tmp s, e⟩
  · exact h.move m fun a o e n s => ⟨sl s, e⟩
/-! ### a field stored -/
def putN (f : Str) : List Str → List Str
  | [] => [f]
  | g :: r => if g = f then g :: r else g :: putN f r
def putC {α : Type} (f : Str) (x : α) : List Str → List α → List α
  | [], _ => [x]
  | g :: r, y :: ys => if g = f then x :: ys else y :: putC f x r ys
  | _ :: _, [] => []
theorem putF_zip (f : Str) (v : V) : ∀ {ns : List Str} {vs : List V}, ns.length = vs.length → putF f v (ns.zip vs) = (putN f ns).zip (putC f v ns vs)
  | [], [], _ => rfl
  | n :: ns, w :: vs, h => by
    show (if n = f then (n, v) :: ns.zip vs else (n, w) :: putF f v (ns.zip vs)) = List.zip (if n = f then n :: ns else n :: putN f ns) (if n = f then v :: vs else w :: putC f v ns vs)
    by_cases c : n = f
    · rw [if_pos c, if_pos c, if_pos c]
      rfl
    · rw [if_neg c, if_neg c, if_neg c, putF_zip f v (by simpa using h)]
      rfl
theorem putN_len (f : Str) (v : V) : ∀ {ns : List Str} {vs : List V}, ns.length = vs.length → (putN f ns).length = (putC f v ns vs).length
  | [], [], _ => rfl
  | n :: ns, w :: vs, h => by
    show (if n = f then n :: ns else n :: putN f ns).length = (if n = f then v :: vs else w :: putC f v ns vs).length
    by_cases c : n = f
    · rw [if_pos c, if_pos c]; exact h
    · rw [if_neg c, if_neg c, List.length_cons, List.length_cons, putN_len f v (by simpa using h)]
theorem chps_put {K : PySem.W.Frag} {S : Addr → Own} {H : Hp} {me : Own} {f : Str} {v : V} {oa : Option Addr} {c : Ch} (hc : ChP K S H me v oa c) : ∀ {ns : List Str} {vs : List V} {as : List (Option Addr)} {cs : List Ch}, ns.length = vs.length → ChPs K S H me vs as cs → ChPs K S H me (putC f v ns vs) (putC f oa ns as) (putC f c ns cs)
  | [], [], [], [], _, _ => ⟨hc, True.intro⟩
  | n :: ns, w :: vs, a :: as, d :: cs, hl, ⟨h, r⟩ => by
    show ChPs K S H me (if n = f then v :: vs else w :: putC f v ns vs) (if n = f then oa :: as else a :: putC f oa ns as) (if n = f then c :: cs else d :: putC f c ns cs)
    by_cases e : n = f
    · rw [if_pos e, if_pos e, if_pos e]; exact ⟨hc, r⟩
    · rw [if_neg e, if_neg e, if_neg e]; exact ⟨h, chps_put hc (by simpa using hl) r⟩
  | [], [], [], _ :: _, _, h => h.elim
  | [], [], _ :: _, cs, _, h => by cases cs <;> exact h.elim
  | _ :: _, _ :: _, [], cs, _, h => by cases cs <;> exact h.elim
  | _ :: _, _ :: _, _ :: _, [], _, h => h.elim
/-- the cells behind a store: the old ones', and the new one -/
theorem cells_put {f : Str} {oa : Option Addr} {x : Addr} : ∀ {ns : List Str} {as : List (Option Addr)}, x ∈ cells (putC f oa ns as) → oa = some x ∨ x ∈ cells as
  | [], as, h => by
    obtain ⟨o, ho, e⟩ := List.mem_filterMap.mp h
    have ho : o ∈ [oa] := ho
    rw [List.mem_singleton.mp ho] at e
    exact .inl e
  | n :: ns, [], h => by
    obtain ⟨o, ho, e⟩ := List.mem_filterMap.mp h
    cases ho
  | n :: ns, a :: as, h => by
    have h : x ∈ cells (if n = f then oa :: as else a :: putC f oa ns as) := h
    split at h
    · obtain ⟨o, ho, e⟩ := List.mem_filterMap.mp h
      rcases List.mem_cons.mp ho with rfl | ho
      · exact .inl e
      · exact .inr (List.mem_filterMap.mpr ⟨o, .tail _ ho, e⟩)
    · obtain ⟨o, ho, e⟩ := List.mem_filterMap.mp h
      rcases List.mem_cons.mp ho with rfl | ho
      · exact .inr (List.mem_filterMap.mpr ⟨o, .head _, e⟩)
      · rcases cells_put (ns := ns) (as := as) (List.mem_filterMap.mpr ⟨o, ho, e⟩) with q | q
        · exact .inl q
        · obtain ⟨o2, h2, e2⟩ := List.mem_filterMap.mp q
          exact .inr (List.mem_filterMap.mpr ⟨o2, .tail _ h2, e2⟩)
theorem cells_cons {a : Option Addr} {as : List (Option Addr)} : cells (a :: as) = (match a with | some x => x :: cells as | none => cells as) := by
  unfold cells
  rw [List.filterMap_cons]
  cases a <;> rfl
theorem cells_nodup {f : Str} {oa : Option Addr} : ∀ {ns : List Str} {as : List (Option Addr)}, (cells as).Nodup → (∀ x, oa = some x → x ∉ cells as) → (cells (putC f oa ns as)).Nodup
  | [], as, _, _ => by
    show (cells [oa]).Nodup
    rw [cells_cons]
    cases oa with
    | none => exact List.nodup_nil
    | some x => exact List.nodup_cons.mpr ⟨by simp [cells], List.nodup_nil⟩
  | n :: ns, [], _, _ => List.nodup_nil
  | n :: ns, a :: as, h, ho => by
    have hs : (cells as).Nodup := by
      rw [cells_cons] at h
      cases a with
      | none => exact h
      | some x => exact (List.nodup_cons.mp h).2
    have ho' : ∀ x, oa = some x → x ∉ cells as := fun x e m => ho x e (by
      rw [cells_cons]
      cases a with
      | none => exact m
      | some y => exact .tail _ m)
    show (cells (if n = f then oa :: as else a :: putC f oa ns as)).Nodup
    split
    · rw [cells_cons]
      cases oa with
      | none => exact hs
      | some x => exact List.nodup_cons.mpr ⟨ho' x rfl, hs⟩
    · have ih := cells_nodup (f := f) (ns := ns) hs ho'
      rw [cells_cons]
      cases a with
      | none => exact ih
      | some y =>
        refine List.nodup_cons.mpr ⟨fun m => ?_, ih⟩
        rcases cells_put m with q | q
        · exact ho y q (by rw [cells_cons]; exact .head _)
        · rw [cells_cons] at h
          exact (List.nodup_cons.mp h).1 q
theorem ChP.own {K : PySem.W.Frag} {S : Addr → Own} {H : Hp} {me : Own} {v : V} {oa : Option Addr} {c : Ch} (h : ChP K S H me v oa c) : ∀ x, oa = some x → S x = me := by
  intro x e
  cases c with
  | s z => rw [h.1] at e; cases e
  | l zs => obtain ⟨a, vs, e1, _, s, _⟩ := h; rw [e1] at e; cases e; exact s
  | k ks zs => obtain ⟨a, vs, e1, _, s, _⟩ := h; rw [e1] at e; cases e; exact s
  | t ks zs => obtain ⟨a, vs, e1, _, s, _⟩ := h; rw [e1] at e; cases e; exact s
theorem ChPs.own {K : PySem.W.Frag} {S : Addr → Own} {H : Hp} {me : Own} : ∀ {vs : List V} {as : List (Option Addr)} {cs : List Ch}, ChPs K S H me vs as cs → ∀ x ∈ cells as, S x = me
  | [], [], [], _, x, m => by cases m
  | _ :: _, o :: as, _ :: _, ⟨h, r⟩, x, m => by
    rw [cells_cons] at m
    cases o with
    | none => exact ChPs.own r x m
    | some y =>
      rcases List.mem_cons.mp m with rfl | m
      · exact h.own _ rfl
      · exact ChPs.own r x m
  | [], [], _ :: _, h, _, _ => h.elim
  | [], _ :: _, _, h, _, _ => by cases ‹List Ch› <;> exact h.elim
  | _ :: _, [], _, h, _, _ => by cases ‹List Ch› <;> exact h.elim
  | _ :: _, _ :: _, [], h, _, _ => h.elim
/-- a value as a child -/
def B.chd : B → (Ch → Prop) → Prop
  | .set z, k => k (.s z)
  | .frs z, k => k (.s z)
  | .two r, k => k (.s r.z)
  | .own (.lst l), k => k (.l l)
  | .own (.dk ks l), k => k (.k ks l)
  | .own (.dt ks l), k => k (.t ks l)
  | .own z, k => k (.s z)
  | .bor _ _ z, k => z.imm = true ∧ k (.s z)
  | _, _ => False
theorem Rel.chd {v : V} {b : B} {k : Ch → Prop} (R : Rel fr F Γ (T ++ [(v, b)]) σ H) (h : b.chd k) : ∃ c b' S oa, k c ∧ RelS fr F Γ (T ++ [(v, b')]) σ H S ∧ ChP fr.K S H (.tmp T.length) v oa c := by
  have st : ∀ z, k (.s z) → Rel fr F Γ (T ++ [(v, B.set z)]) σ H → ∃ c b' S oa, k c ∧ RelS fr F Γ (T ++ [(v, b')]) σ H S ∧ ChP fr.K S H (.tmp T.length) v oa c := fun z hk ⟨S, R⟩ => ⟨.s z, _, S, none, hk, R, rfl, fstP R⟩
  cases b with
  | set z => exact st z h R
  | frs z => exact st z h (R.settle rfl)
  | two r => exact st r.z h (R.settle rfl)
  | bor is x z => exact st z h.2 (R.immB rfl h.1)
  | own z =>
    cases z with
    | lst l =>
      obtain ⟨S, R⟩ := R
      obtain ⟨a, vs, e, q⟩ : OwnP fr.K S H (.tmp T.length) v (.lst l) := fstP R
      exact ⟨.l l, _, S, some a, h, R, a, vs, rfl, e, q⟩
    | dk ks l =>
      obtain ⟨S, R⟩ := R
      obtain ⟨a, vs, e, q⟩ : OwnP fr.K S H (.tmp T.length) v (.dk ks l) := fstP R
      exact ⟨.k ks l, _, S, some a, h, R, a, vs, rfl, e, q⟩
    | dt ks l =>
      obtain ⟨S, R⟩ := R
      obtain ⟨a, vs, e, q⟩ : OwnP fr.K S H (.tmp T.length) v (.dt ks l) := fstP R
      exact ⟨.t ks l, _, S, some a, h, R, a, vs, rfl, e, q⟩
    | _ => exact st _ h (R.settle rfl)
  | _ => exact h.elim
/-- a slot's object takes a new child -/
theorem RelS.sto {i : Nat} {v : V} {b : B} {c : Ch} {oc : Option Addr} {oa : Option Addr} {C : Addr} {ns : List Str} {cs : List Ch} {f : Str} (R : RelS fr F Γ [(v, b)] σ H S) (hc : ChP fr.K S H (.tmp 0) v oc c) (e : Γ[i]? = some (some (.two (.o oa C ns cs)))) :
    ∃ a dx vs, σ[i]? = some (some (.ref a)) ∧ H a = some (.ins C dx (ns.zip vs)) ∧ ns.length = vs.length ∧ (ns.zip vs).length ≤ ns.length ∧ Rel fr F (Γ.set i (some (.two (.o oa C (putN f ns) (putC f c ns cs))))) [] σ (upd H a (.ins C dx (putF f v (ns.zip vs)))) := by
  obtain ⟨w, hw, hp⟩ := R.sl i _ e
  obtain ⟨A1, A2, A3⟩ := R.adopt i
  have hp' := A3 _ _ hp
  obtain ⟨a, vs, as, rfl, sa, ⟨ho, dx, sd, h4, h5, h6⟩, h2, nd⟩ := hp
  have h6 : ns.length = vs.length := h6
  have nax : a ≠ dx := fun z => by rw [z, h5] at h4; cases h4
  have own := hc.own
  have nO : ∀ x, oc = some x → S x = .tmp 0 := own
  have hc' := A2 _ _ hc
  have sa' : adO i S a = .slot i := (adO_ne (by rw [sa]; exact fun z => nomatch z)).trans sa
  have sd' : adO i S dx = .slot i := (adO_ne (by rw [sd]; exact fun z => nomatch z)).trans sd
  have nda : a ∉ cells as := (List.nodup_cons.mp nd).1
  have ndc : (cells as).Nodup := (List.nodup_cons.mp nd).2
  have co := h2.own
  have h2' : ChPs fr.K (adO i S) H (.slot i) vs as cs := by
    have m : Le (vw S H (eqO .set)) (vw (adO i S) H (eqO .set)) := vw_le fun x o e _ c => ⟨e, c.imp id fun c => by
      have c : S x = .set := of_decide_eq_true c
      exact decide_eq_true ((adO_ne (by rw [c]; exact fun z => nomatch z)).trans c)⟩
    exact h2.move m fun x o e n s => ⟨(adO_ne (by rw [s]; exact fun z => nomatch z)).trans s, e⟩
  have na : oc ≠ some a := fun z => by
    have := nO a z
    rw [sa] at this
    cases this
  refine ⟨a, dx, vs, hw, h4, h6, by rw [List.length_zip]; exact Nat.min_le_left _ _, RelS.two A1 hw (List.getElem?_eq_some_iff.mp e).1 h4 rfl rfl (fun c q z => by cases z) sa' fun m => ?_⟩
  refine ⟨a, putC f v ns vs, putC f oc ns as, rfl, sa', ⟨ho, dx, sd', ?_, (upd_ne nax.symm).trans h5, putN_len f v h6⟩, chps_put (ChP.upd hc' m na) h6 (ChPs.upd m (cells_no nda) h2'), ?_⟩
  · rw [upd_same, putF_zip f v h6]
  · refine List.nodup_cons.mpr ⟨fun z => ?_, cells_nodup ndc fun x ex z => ?_⟩
    · rcases cells_put z with q | q
      · exact na q
      · exact nda q
    · have := nO x ex
      rw [co x z] at this
      cases this
/-- x.f = e -/
def zSto (i : Nat) (C : Addr) (f : Str) (zv : ZE) : ZS := fun D Γ => zv Γ fun b => match Γ[i]? with
  | some (some (.two (.o oa D' ns cs))) => D' = C ∧ ns.length < 1000 ∧ b.chd fun c => D.nx (Γ.set i (some (.two (.o oa C (putN f ns) (putC f c ns cs)))))
  | _ => False
theorem z_sto {i : Nat} {C : Addr} {f : Str} {tv : TE} {zv : ZE} (hc : Cls fr.K C) (hn : NoAttr fr.K C f) (h : SE fr tv zv) : SS fr (sFld fr.K (tVar i) tv f) (zSto i C f zv) := by
  intro F Γ σ H zD D R hD q
  refine h F Γ [] σ H _ _ R (fun b hb v H1 R1 => ?_) q
  split at hb
  · rename_i oa D' ns cs e
    obtain ⟨rfl, hl, hb⟩ := hb
    obtain ⟨c, b', S, oc, hk, R2, hp⟩ := Rel.chd (T := []) R1 hb
    obtain ⟨a, dx, vs, h1, h2, h3, h4, h5⟩ := R2.sto (f := f) hp e
    exact ⟨_, h1, a, _, dx, _, rfl, h2, hc, hn, Nat.lt_of_le_of_lt h4 hl, hD.nx _ _ _ h5 hk⟩
  · exact hb.elim
end
end Rt

set_option autoImplicit false
namespace Rt
open PySem PySem.Spec PyProof.Rows L2 RZ TL LamX
variable [TabsT]
/-! ### promises that turn their first argument -/
abbrev RM := List Str → List Ch → List Z → (List Str → List Ch → B → Prop) → (List Str → List Ch → Ez → Prop) → Prop
def isMu : HO → Bool
  | .lst _ => true
  | .dK _ => true
  | .dT _ => true
  | .ins _ _ _ => true
  | .own _ => true
  | _ => false
theorem isMu_no {o : HO} (h : isMu o = true) : isTup o = false ∧ isTbl o = false ∧ ∀ c q, o ≠ CodeO c q := by
  cases o <;> first | (cases h; done) | exact ⟨rfl, rfl, fun c q z => nomatch z⟩
def ownM (E0 : Hp) (m : Addr → Bool) : Addr → Own := fun x => if m x = true then .slot 0 else if (E0 x).isSome = true then .set else .out
abbrev frM (K : PySem.W.Frag) (m : Addr → Bool) (E0 E : Hp) : Fr := ⟨K, fun x => m x = true, E0, E⟩
theorem ownM_set {E0 : Hp} {m : Addr → Bool} {x : Addr} (h : ownM E0 m x = .set) : E0 x ≠ none := by
  unfold ownM at h
  split at h
  · cases h
  · split at h
    · rename_i c
      exact fun e => by rw [e] at c; cases c
    · cases h
theorem ownM_slot {E0 : Hp} {m : Addr → Bool} {x : Addr} {i : Nat} (h : ownM E0 m x = .slot i) : m x = true := by
  unfold ownM at h
  split at h
  · assumption
  · split at h <;> cases h
theorem ownM_no {E0 : Hp} {m : Addr → Bool} {x : Addr} : (∀ j, ownM E0 m x ≠ .tmp j) ∧ ownM E0 m x ≠ .drw := by
  unfold ownM
  refine ⟨fun j h => ?_, fun h => ?_⟩
  all_goals
    split at h
    · cases h
    · split at h <;> cases h
def spM (K : PySem.W.Frag) (mg : Str → Option Value) (C : Addr) (R : RM) : Sp := fun vs H Q E => ∃ (E0 : Hp) (m : Addr → Bool) (a : Addr) (ws : List V) (ns : List Str) (cs : List Ch) (zs : List Z) (k : List Str → List Ch → B → Prop) (e : List Str → List Ch → Ez → Prop),
  vs = .ref a :: ws ∧ Le E0 H ∧ NtT E0 H ∧ Zps K E0 ws zs ∧ (∀ x, m x = true → E0 x = none) ∧ TwoP K (ownM E0 m) H (.slot 0) (.ref a) (.o (some a) C ns cs) ∧ R ns cs zs k e ∧
  (∀ ns' cs' b, k ns' cs' b → ∀ v H' S, GoZ (frM K m E0 H) S H' → TwoP K S H' (.slot 0) (.ref a) (.o (some a) C ns' cs') → b.P K S H' (.tmp 0) v → Q v H') ∧
  (∀ ns' cs' x, e ns' cs' x → ∀ S Hb, GoZ (frM K m E0 H) S Hb → TwoP K S Hb (.slot 0) (.ref a) (.o (some a) C ns' cs') → ∀ cls d H', RaisedZ K mg x Hb cls d H' → E cls d H')
theorem start_relM {K : PySem.W.Frag} {E0 H : Hp} {m : Addr → Bool} {v : V} {r : Root} {N : List Str} {vs : List V} {zs : List Z} (h0 : Le E0 H) (nt : NtT E0 H) (hz : Zps K E0 vs zs) (nm : ∀ x, m x = true → E0 x = none) (h2 : TwoP K (ownM E0 m) H (.slot 0) v r) :
    Rel (frM K m E0 H) (fun _ => none) (startG N (.two r :: zs.map B.set)) [] (L2.start N (v :: vs)) H := by
  have up : Le E0 (vw (ownM E0 m) H (eqO .set)) := fun b o e => vw_at (h0 b o e) (nt.nt b o e) (.inr (decide_eq_true (by
    unfold ownM
    rw [if_neg (fun z => by rw [nm b z] at e; cases e), if_pos (by rw [e]; rfl)])))
  refine ⟨ownM E0 m, ⟨up, fun b o e _ _ => e, fun b e => e, fun b o e h => .inl (ownM_set h), fun b i h => .inr (ownM_slot h), fun b j h => absurd h (ownM_no.1 j), fun b h => absurd h ownM_no.2, nt.tabs⟩, (fun b o e => nomatch e), start_len (by rw [List.length_cons, List.length_cons, List.length_map, hz.len]), fun i b e => ?_, fun j v b e => by simp at e, fun i b e => ?_⟩
  · have := startG_at e
    cases i with
    | zero =>
      cases this
      exact ⟨v, start_at rfl, h2⟩
    | succ i =>
      have this : (zs.map B.set)[i]? = some b := this
      rw [List.getElem?_map] at this
      cases q : zs[i]? with
      | none => rw [q] at this; cases this
      | some z =>
        rw [q] at this
        cases this
        obtain ⟨v, h1, h2⟩ := zps_at hz q
        exact ⟨v, start_at (i := i + 1) h1, h2.up up⟩
  · have := startG_at e
    cases i with
    | zero => cases this; rfl
    | succ i =>
      have this : (zs.map B.set)[i]? = some b := this
      rw [List.getElem?_map] at this
      cases q : zs[i]? with
      | none => rw [q] at this; cases this
      | some z => rw [q] at this; cases this; rfl
/-- what a def that turns its first argument hands back -/
inductive CvM : B → B → Prop
  | set (z : Z) : CvM (.set z) (.set z)
  | frs (z : Z) : CvM (.frs z) (.frs z)
  | imm {b : B} {z : Z} (h : b.z = some z) (i : z.imm = true) : CvM b (.set z)
  | ownF {z : Z} (i : Z.imms z.items = true) : CvM (.own z) (.frs z)
  | ownS (z : Z) : CvM (.own z) (.set z)
  | frsS (z : Z) : CvM (.frs z) (.set z)
  | twoS (r : Root) : CvM (.two r) (.set r.z)
  | two (r : Root) : CvM (.two r) (.two r)
section
variable {fr : Fr} {F F' : Hp} {Γ : G} {T A : List (V × B)} {σ : L2.St} {H H' : Hp} {S S' : Addr → Own} {mg : Str → Option Value}
theorem Rel.retM {v : V} {b c : B} (R : Rel fr F Γ [(v, b)] σ H) (h : CvM b c) : ∃ S, GoZ fr S H ∧ c.P fr.K S H (.tmp 0) v ∧ ∀ i r, Γ[i]? = some (some (.two r)) → ∃ w, σ[i]? = some (some w) ∧ TwoP fr.K S H (.slot i) w r := by
  have key : ∀ {c : B}, Rel fr F Γ [(v, c)] σ H → ∃ S, GoZ fr S H ∧ c.P fr.K S H (.tmp 0) v ∧ ∀ i r, Γ[i]? = some (some (.two r)) → ∃ w, σ[i]? = some (some w) ∧ TwoP fr.K S H (.slot i) w r := fun ⟨S, R⟩ => ⟨S, R.go, R.tm 0 v _ rfl, fun i r e => R.sl i _ e⟩
  cases h with
  | set z => exact key R
  | frs z => exact key R
  | imm h i => exact key (Rel.immB (T := []) R h i)
  | ownS z => exact key (Rel.settle (T := []) R rfl)
  | frsS z => exact key (Rel.settle (T := []) R rfl)
  | twoS r => exact key (Rel.settle (T := []) R rfl)
  | two r => exact key R
  | ownF i =>
    rename_i z
    obtain ⟨S, R⟩ := R
    have p : OwnP fr.K S H (.tmp 0) v z := R.tm 0 v _ rfl
    exact ⟨S, R.go, OwnP.mov (p := eqO (.tmp 0)) (decide_eq_true rfl) i p, fun i r e => R.sl i _ e⟩
theorem two_ref {K : PySem.W.Frag} {me : Own} {a C : Addr} {w : V} {ns : List Str} {cs : List Ch} (h : TwoP K S H me w (.o (some a) C ns cs)) : w = .ref a := by
  obtain ⟨a', vs, as, rfl, _, ⟨e, _⟩, _⟩ := h
  rw [e a rfl]
end
def zEndM (a C : Addr) (k : List Str → List Ch → B → Prop) : ZEnds := { nx := fun Γ => ∃ ns cs, Γ[0]? = some (some (.two (.o (some a) C ns cs))) ∧ k ns cs (.set .non), rt := fun Γ b => ∃ ns cs, Γ[0]? = some (some (.two (.o (some a) C ns cs))) ∧ ∃ c, CvM b c ∧ k ns cs c }
/-- what is wished of an error, by the slots -/
def WishG (fr : Fr) (mg : Str → Option Value) (Ed : G → Ez → Prop) (W : WX) : Prop := ∀ F Γ T σ x, Ed Γ x → ∀ Hb cls d H', Rel fr F Γ T σ Hb → RaisedZ fr.K mg x Hb cls d H' → W cls d σ H'
def edM (a C : Addr) (e : List Str → List Ch → Ez → Prop) : G → Ez → Prop := fun Γ x => ∃ ns cs, Γ[0]? = some (some (.two (.o (some a) C ns cs))) ∧ e ns cs x
section
variable {P : Program} {w : World} {K : PySem.W.Frag} {mg : Str → Option Value} {base : Heap} {x qual : Str} {st : Stmt} {f : Addr} {fd : FuncData} {N ps : List Str} {k : Nat}
theorem okZM {C : Addr} {R : RM} (F : Fun K x qual st f fd) (S : FnScope N ps (defScope st)) (hlen : ∀ ns cs zs k e, R ns cs zs k e → zs.length + 1 = ps.length)
    (hbody : ∀ (cdv : Value) (A : Around) (outer : List Env) (s : Shared) (H E0 : Hp) (m : Addr → Bool) (a : Addr) (E : XK), Room k (A.deeper (envOfC qual (defScope st) s.heap.objs.size f cdv)) →
      ∃ t z, PSs (cxOf CX0 P w K mg base N qual (defScope st) f cdv A outer s H E).nox (defBody st) t ∧ SS (frM K m E0 H) t z ∧ ∀ ns cs zs k, R ns cs zs k (fun _ _ _ => False) → z (zEndM a C k) (startG N (.two (.o (some a) C ns cs) :: zs.map B.set)))
    (hm : ∀ ns cs zs k e, R ns cs zs k e → R ns cs zs k (fun _ _ _ => False)) : FnOk P w K mg base CX0 (k + 1) f fd ps (spM K mg C R) := by
  refine F.ok S (fun vs H Q E h => ?_) (fun cdv A outer s H vs Q E hr h => ?_)
  · obtain ⟨E0, m, a, ws, ns, cs, zs, k, e, rfl, h1, h2, h3, h4, h5, h6, _⟩ := h
    rw [List.length_cons, h3.len]
    exact hlen ns cs zs k e h6
  · obtain ⟨E0, m, a, ws, ns, cs, zs, kk, e, rfl, h1, h2, h3, h4, h5, h6, h7, _⟩ := h
    obtain ⟨t, z, ht, hz, hb⟩ := hbody cdv A outer s H E0 m a E hr
    refine ⟨t, ht, hz (fun _ => none) _ _ _ (zEndM a C kk) _ (start_relM h1 h2 h3 h4 h5) ⟨fun Γ σ H' R' q => ?_, fun _ _ _ _ q => q.elim, fun _ _ _ _ q => q.elim, fun Γ v b σ H' R' q => ?_⟩ (hb ns cs zs kk (hm ns cs zs kk e h6))⟩
    · obtain ⟨ns', cs', q0, q1⟩ := q
      obtain ⟨S, R'⟩ := R'
      obtain ⟨w, _, hp⟩ := R'.sl 0 _ q0
      cases two_ref hp
      exact h7 _ _ _ q1 _ _ S R'.go hp .non
    · obtain ⟨ns', cs', q0, c, c1, c2⟩ := q
      obtain ⟨S, g1, g2, g3⟩ := Rel.retM R' c1
      obtain ⟨w, _, hp⟩ := g3 0 _ q0
      cases two_ref hp
      exact h7 _ _ c c2 _ _ S g1 hp g2
theorem okZXM {C : Addr} {R : RM} (F : Fun K x qual st f fd) (S : FnScope N ps (defScope st)) (hlen : ∀ ns cs zs k e, R ns cs zs k e → zs.length + 1 = ps.length)
    (hbody : ∀ (cdv : Value) (A : Around) (outer : List Env) (s : Shared) (H E0 : Hp) (m : Addr → Bool) (a : Addr) (E : XK) (Ed : List Str → List Ch → Ez → Prop), Room k (A.deeper (envOfC qual (defScope st) s.heap.objs.size f cdv)) → WishG (frM K m E0 H) mg (edM a C Ed) (fun cls d _ H => E cls d H) →
      ∃ t z, PSs (cxOf (L2.CX P w) P w K mg base N qual (defScope st) f cdv A outer s H E) (defBody st) t ∧ SS (frM K m E0 H) t z ∧ ∀ ns cs zs k, R ns cs zs k Ed → z (zEndM a C k) (startG N (.two (.o (some a) C ns cs) :: zs.map B.set))) : FnOk P w K mg base (L2.CX P w) (k + 1) f fd ps (spM K mg C R) := by
  refine F.okX S (fun vs H Q E h => ?_) (fun cdv A outer s H vs Q E hr h => ?_)
  · obtain ⟨E0, m, a, ws, ns, cs, zs, k, e, rfl, h1, h2, h3, h4, h5, h6, _⟩ := h
    rw [List.length_cons, h3.len]
    exact hlen ns cs zs k e h6
  · obtain ⟨E0, m, a, ws, ns, cs, zs, kk, e, rfl, h1, h2, h3, h4, h5, h6, h7, h8⟩ := h
    have hW : WishG (frM K m E0 H) mg (edM a C e) (fun cls d _ H => E cls d H) := fun F Γ T σ x ⟨ns', cs', q0, q1⟩ Hb cls d H' ⟨S, R⟩ r => by
      obtain ⟨w, _, hp⟩ := R.sl 0 _ q0
      cases two_ref hp
      exact h8 _ _ x q1 S Hb R.go hp cls d H' r
    obtain ⟨t, z, ht, hz, hb⟩ := hbody cdv A outer s H E0 m a E e hr hW
    refine ⟨t, ht, hz (fun _ => none) _ _ _ (zEndM a C kk) _ (start_relM h1 h2 h3 h4 h5) ⟨fun Γ σ H' R' q => ?_, fun _ _ _ _ q => q.elim, fun _ _ _ _ q => q.elim, fun Γ v b σ H' R' q => ?_⟩ (hb ns cs zs kk h6)⟩
    · obtain ⟨ns', cs', q0, q1⟩ := q
      obtain ⟨S, R'⟩ := R'
      obtain ⟨w, _, hp⟩ := R'.sl 0 _ q0
      cases two_ref hp
      exact h7 _ _ _ q1 _ _ S R'.go hp .non
    · obtain ⟨ns', cs', q0, c, c1, c2⟩ := q
      obtain ⟨S, g1, g2, g3⟩ := Rel.retM R' c1
      obtain ⟨w, _, hp⟩ := g3 0 _ q0
      cases two_ref hp
      exact h7 _ _ c c2 _ _ S g1 hp g2
end
/-! ### behind such a call -/
def mrgM (H : Hp) (n : Nat) (new : Own) (S1 S' : Addr → Own) : Addr → Own := fun x => if H x = none then (match S' x with
  | .set => .set
  | .tmp _ => .tmp n
  | .slot _ => new
  | _ => .out) else S1 x
structure MX (fr : Fr) (S1 : Addr → Own) (H1 HE H' : Hp) (S' : Addr → Own) (m : Addr → Bool) (n : Nat) (new : Own) : Prop where
  g : GoZ fr S1 H1
  sub : ∀ x o, H1 x = some o → HE x = some o
  g' : GoZ (frM fr.K m (vw S1 H1 (eqO .set)) HE) S' H'
  hm : ∀ x, m x = true → H1 x = none ∨ (S1 x = new ∧ ∃ o, H1 x = some o ∧ isMu o = true)
  nw : new = .tmp n ∨ ∃ i, new = .slot i
section
variable {fr : Fr} {F F' : Hp} {Γ : G} {T A : List (V × B)} {σ : L2.St} {H1 HE H' : Hp} {S1 S' : Addr → Own} {mg : Str → Option Value} {m : Addr → Bool} {n : Nat} {new : Own}
theorem mrgM_old {x : Addr} (h : H1 x ≠ none) : mrgM H1 n new S1 S' x = S1 x := if_neg h
theorem mrgM_new {x : Addr} (h : H1 x = none) : mrgM H1 n new S1 S' x = (match S' x with | .set => .set | .tmp _ => .tmp n | .slot _ => new | _ => .out) := if_pos h
theorem MX.keep (X : MX fr S1 H1 HE H' S' m n new) {x : Addr} {o : HO} (e : H1 x = some o) (nt : isTbl o = false) (h : S1 x ≠ new ∨ isMu o = false) : H' x = some o :=
  X.g'.keep x o (X.sub x o e) nt fun z => by
    have z : m x = true := z
    rcases X.hm x z with q | ⟨q1, o', q2, q3⟩
    · rw [q] at e; cases e
    · rw [e] at q2
      cases q2
      rcases h with h | h
      · exact h q1
      · rw [h] at q3; cases q3
theorem isMu_tup {o : HO} (h : isTup o = true) : isMu o = false := by cases o <;> first | (cases h; done) | rfl
theorem MX.setLe (X : MX fr S1 H1 HE H' S' m n new) : Le (vw S' H' (eqO .set)) (vw (mrgM H1 n new S1 S') H' (eqO .set)) := vw_le fun x o e nt c => ⟨e, by
  rcases c with c | c
  · exact .inl c
  · have c : S' x = .set := of_decide_eq_true c
    cases hx : H1 x with
    | none => exact .inr (decide_eq_true (by rw [mrgM_new hx, c]))
    | some u =>
      have tup : isTup u = true → isTup o = true := fun t => by
        have := X.keep hx (tup_tbl t) (.inr (isMu_tup t))
        rw [e] at this; cases this; exact t
      rcases X.g'.new x u (X.sub x u hx) c with q | q
      · cases e0 : vw S1 H1 (eqO .set) x with
        | none => exact absurd e0 q
        | some w =>
          obtain ⟨e1, e2, e3⟩ := vw_of e0
          rw [hx] at e1
          cases e1
          rcases e3 with t | t
          · exact .inl (tup t)
          · exact .inr (decide_eq_true ((mrgM_old (by rw [hx]; simp)).trans (of_decide_eq_true t)))
      · exact .inl (tup q)⟩
theorem MX.nset (X : MX fr S1 H1 HE H' S' m n new) : new ≠ .set ∧ new ≠ .drw ∧ new ≠ .out := by
  rcases X.nw with h | ⟨i, h⟩ <;> rw [h] <;> exact ⟨(fun z => nomatch z), (fun z => nomatch z), fun z => nomatch z⟩
theorem MX.old (X : MX fr S1 H1 HE H' S' m n new) {p : Own → Bool} (hp : p new = false) : Le (vw S1 H1 p) (vw (mrgM H1 n new S1 S') H' p) := vw_le fun x o e nt c => by
  refine ⟨X.keep e nt ?_, c.imp id fun c => by rw [mrgM_old (by rw [e]; simp)]; exact c⟩
  rcases c with c | c
  · exact .inr (isMu_tup c)
  · exact .inl fun z => by rw [z, hp] at c; cases c
theorem MX.goz (X : MX fr S1 H1 HE H' S' m n new) : GoZ fr (mrgM H1 n new S1 S') H' := by
  have g := X.g
  have ns := X.nset
  have h1 : ∀ {b}, fr.E b ≠ none → H1 b ≠ none := fun e => g.there _ e
  have hE : ∀ {b}, H1 b = none → fr.E b = none := fun {b} e => by
    cases q : fr.E b with
    | none => rfl
    | some u => exact absurd e (h1 (by rw [q]; simp))
  refine ⟨fun x o e => X.old (p := eqO .set) (decide_eq_false ns.1) x o (g.up x o e), fun b o e tb nm => ?_, fun b e => ?_, fun b o e h => ?_, fun b i h => ?_, fun b j h => ?_, fun b h => ?_, X.g'.tabs⟩
  · have e1 := g.keep b o e tb nm
    refine X.keep e1 tb ?_
    by_cases c : S1 b = new
    · rcases X.nw with q | ⟨i, q⟩
      · rw [q] at c
        rw [g.ownT b n c] at e; cases e
      · rw [q] at c
        rcases g.ownS b i c with z | z
        · rw [z] at e; cases e
        · exact absurd z nm
    · exact .inl c
  · have e1 : HE b ≠ none := by
      cases q : H1 b with
      | none => exact absurd q (h1 e)
      | some o => rw [X.sub b o q]; simp
    exact X.g'.there b e1
  · rw [mrgM_old (h1 (by rw [e]; simp))] at h
    exact g.new b o e h
  · by_cases c : H1 b = none
    · exact .inl (hE c)
    · rw [mrgM_old c] at h; exact g.ownS b i h
  · by_cases c : H1 b = none
    · exact hE c
    · rw [mrgM_old c] at h; exact g.ownT b j h
  · by_cases c : H1 b = none
    · exact .inl (hE c)
    · rw [mrgM_old c] at h; exact g.ownD b h
theorem MX.two (X : MX fr S1 H1 HE H' S' m n new) {v : V} {r : Root} (h : TwoP fr.K S' H' (.slot 0) v r) : TwoP fr.K (mrgM H1 n new S1 S') H' new v r :=
  h.move X.setLe fun a o e _ s => ⟨by
    cases q : H1 a with
    | none => rw [mrgM_new q, s]
    | some u =>
      rw [mrgM_old (by rw [q]; simp)]
      rcases X.g'.ownS a 0 s with z | z
      · have z : HE a = none := z
        rw [X.sub a u q] at z; cases z
      · have z : m a = true := z
        rcases X.hm a z with z | z
        · rw [q] at z; cases z
        · exact z.1, e⟩
theorem MX.res (X : MX fr S1 H1 HE H' S' m n new) {v : V} {b : B} {k : B → Prop} (hb : b.P fr.K S' H' (.tmp 0) v) (hk : resS k b) : ∃ c, k c ∧ c.brw = false ∧ c.P fr.K (mrgM H1 n new S1 S') H' (.tmp n) v := by
  cases b with
  | set z => exact ⟨.set z, hk, rfl, Zp.up X.setLe hb⟩
  | frs z =>
    refine ⟨.frs z, hk, rfl, Zp.up (vw_le fun x o e _ c => ⟨e, c.imp id fun c => decide_eq_true ?_⟩) hb⟩
    have c := of_decide_eq_true c
    have hx : H1 x = none := by
      cases q : H1 x with
      | none => rfl
      | some u =>
        have := X.g'.ownT x 0 c
        have := X.sub x u q
        simp_all
    rw [mrgM_new hx, c]
  | two r =>
    refine ⟨.two r, hk, rfl, TwoP.move hb X.setLe fun a o e _ s => ⟨?_, e⟩⟩
    have hx : H1 a = none := by
      cases q : H1 a with
      | none => rfl
      | some u =>
        have := X.g'.ownT a 0 s
        have := X.sub a u q
        simp_all
    rw [mrgM_new hx, s]
  | _ => exact hk.elim
theorem MX.mv (X : MX fr S1 H1 HE H' S' m n new) {me : Own} {w : V} {b : B} (hme : me ≠ new) (hb : b.P fr.K S1 H1 me w) (n1 : ∀ st is z, b = .bor st is z → ∀ i ∈ is, Own.slot i ≠ new) (n2 : ∀ i s, b = .bwl i s → Own.slot i ≠ new) : b.P fr.K (mrgM H1 n new S1 S') H' me w := by
  have ns := X.nset
  refine hb.move (fun x o e nt c => X.keep e nt ?_) (fun x h c => (mrgM_old h).trans c) (fun x h c => (mrgM_old h).trans c) (fun x h c => (mrgM_old h).trans c) (fun st is z _ j _ x h c => .inl ((mrgM_old h).trans c)) fun i s _ x h c => (mrgM_old h).trans c
  rcases c with c | c | c | ⟨st, is, z, eb, j, hj, c⟩ | ⟨d', eb, ed⟩ | ⟨j, s, eb, c⟩
  · exact .inr (isMu_tup c)
  · exact .inl fun z => ns.1 (z.symm.trans c)
  · exact .inl fun z => hme (c.symm.trans z)
  · exact .inl fun q => n1 st is z eb j hj (c.symm.trans q)
  · subst eb
    have := hb.2.1
    rw [ed]
    exact .inl fun z => ns.2.1 (z.symm.trans this)
  · exact .inl fun q => n2 j s eb (c.symm.trans q)
/-- behind a method that turned the slot's object -/
theorem RelS.mutd {i : Nat} {r0 r : Root} {w v : V} {c : B} (R : RelS fr F Γ [] σ H1 S1) (X : MX fr S1 H1 HE H' S' m 0 (.slot i)) (e : Γ[i]? = some (some (.two r0))) (hw : σ[i]? = some (some w)) (h : TwoP fr.K S' H' (.slot 0) w r) (hc : c.P fr.K (mrgM H1 0 (.slot i) S1 S') H' (.tmp 0) v) :
    RelS fr F (Γ.set i (some (.two r))) [(v, c)] σ H' (mrgM H1 0 (.slot i) S1 S') := by
  refine ⟨X.goz, fun x o e => X.old (p := eqO .set) (decide_eq_false X.nset.1) x o (R.f x o e), by rw [List.length_set]; exact R.len, fun j b e => ?_, fun j v' b e => ?_, fun j b e => ?_⟩
  · rcases slot_set e with ⟨rfl, rfl, hl⟩ | ⟨hj, e⟩
    · exact ⟨w, hw, X.two h⟩
    · obtain ⟨u, g1, g2⟩ := R.sl j b e
      have nb := R.nb j b e
      exact ⟨u, g1, X.mv (fun z => hj (by cases z; rfl)) g2 (fun st is z eb => by rw [eb] at nb; cases nb) fun k s eb => by rw [eb] at nb; cases nb⟩
  · match j, e with
    | 0, e => cases e; exact hc
  · rcases slot_set e with ⟨_, e, _⟩ | ⟨_, e⟩
    · rw [e]; rfl
    · exact R.nb j b e
/-- behind a making -/
theorem RelS.made {r : Root} {v : V} (R : RelS fr F Γ T σ H1 S1) (X : MX fr S1 H1 HE H' S' m T.length (.tmp T.length)) (h : TwoP fr.K S' H' (.slot 0) v r) :
    RelS fr F Γ (T ++ [(v, .two r)]) σ H' (mrgM H1 T.length (.tmp T.length) S1 S') := by
  refine ⟨X.goz, fun x o e => X.old (p := eqO .set) (decide_eq_false X.nset.1) x o (R.f x o e), R.len, fun j b e => ?_, fun j v' b e => ?_, R.nb⟩
  · obtain ⟨u, g1, g2⟩ := R.sl j b e
    exact ⟨u, g1, X.mv (fun z => nomatch z) g2 (fun st is z eb i hi => fun z => nomatch z) fun k s eb => fun z => nomatch z⟩
  · by_cases hj : j < T.length
    · rw [List.getElem?_append_left hj] at e
      exact X.mv (fun z => by cases z; omega) (R.tm j v' b e) (fun st is z eb i hi => fun z => nomatch z) fun k s eb => fun z => nomatch z
    · rw [List.getElem?_append_right (by omega)] at e
      have hj2 : j = T.length := by
        have := (List.getElem?_eq_some_iff.mp e).1
        have : j - T.length < 1 := this
        omega
      subst hj2
      rw [Nat.sub_self] at e
      cases e
      exact X.two h
end
end Rt

set_option autoImplicit false
namespace Rt
open PySem PySem.Spec PyProof.Rows L2 RZ TL LamX
variable [TabsT]
/-! ### classes, made and asked, by code that may raise -/
theorem passX0 {X : Cx} : Passes (L2.CX X.prog X.w) X E0 := fun _ _ _ _ _ _ _ ⟨_, _, _, _, _, _, _, _, _, _, _, _, h⟩ => h.elim
theorem passW {X : Cx} {E : XK} (tk : Takes X fun cls d _ H => E cls d H) : Passes (L2.CX X.prog X.w) X E := fun pins σ H s e s' I c => passAt tk σ pins H s e s' I c
structure MakX (P : Program) (w : World) (K : PySem.W.Frag) (mg : Str → Option Value) (base : Heap) (k : Nat) (x : Str) (C : Addr) (sp : Sp) (dvs : List V) : Prop where
  ex : ∃ (f : Addr) (fd : FuncData) (ps : List Str) (ds : List Value), Mk K C f ∧ FnOk P w K mg base (L2.CX P w) k f fd ps sp ∧ mg x = some (.ref C) ∧ Binds K fd ps ds ∧ Vals dvs ds
structure MakXN (P : Program) (w : World) (K : PySem.W.Frag) (mg : Str → Option Value) (base : Heap) (k n : Nat) (ks : List Str) (x : Str) (C : Addr) (sp : Sp) (pV : List V → List V) : Prop where
  ex : ∃ (f : Addr) (fd : FuncData) (ps : List Str) (g : List Value → List Value → List Value), Mk K C f ∧ FnOk P w K mg base (L2.CX P w) k f fd ps sp ∧ mg x = some (.ref C) ∧ KBn K fd ps (n + 1) ks g (fun vs zs => vs ++ pV zs)
structure MetX (P : Program) (w : World) (K : PySem.W.Frag) (mg : Str → Option Value) (base : Heap) (k : Nat) (C : Addr) (m : Str) (sp : Sp) (dvs : List V) : Prop where
  ex : ∃ (f : Addr) (fd : FuncData) (ps : List Str) (ds : List Value), Cls K C ∧ Meth K C m f ∧ FnOk P w K mg base (L2.CX P w) k f fd ps sp ∧ Binds K fd ps ds ∧ Vals dvs ds
section
variable {X : Cx} {k j : Nat} {x m : Str} {C : Addr} {sp : Sp} {dvs : List V} {E : XK} {e o : Expr} {es : List Expr} {t tk ta : TA} {p pos apos : Pos}
theorem pe_mkx (c : MakX X.prog X.w X.K X.mg X.base k x C sp dvs) (hr : Room j X.A) (hk : k + 1 ≤ j) (hg : Gl X x) (hx : Passes (L2.CX X.prog X.w) X E) (ha : PA X (e :: es) t) (hdb : (x == ("__debug__" : Str)) = false := by decide)
    (he : starEach (e :: es) X.env = (false, eval e X.env) :: starEach es X.env := by rfl) (hpl : (backTo pos (starEach es X.env)).any (·.1) = false := by rfl) : PE X (.Call (.Name x p) (e :: es) [] pos) (tMake C sp dvs E t) := by
  obtain ⟨f, fd, ps, ds, M, F, hm, b, d⟩ := c.ex
  exact pe_make M F (hr.mono hk) hg hm b d hx ha hdb he hpl
theorem pe_mkx0 (c : MakX X.prog X.w X.K X.mg X.base k x C sp dvs) (hr : Room j X.A) (hk : k + 1 ≤ j) (hg : Gl X x) (hx : Passes (L2.CX X.prog X.w) X E) (hdb : (x == ("__debug__" : Str)) = false := by decide) : PE X (.Call (.Name x p) [] [] pos) (tMake C sp dvs E tNil) := by
  obtain ⟨f, fd, ps, ds, M, F, hm, b, d⟩ := c.ex
  exact pe_make0 M F (hr.mono hk) hg hm b d hx hdb
theorem pe_mkxN {n : Nat} {ks : List Str} {pV : List V → List V} {kws : List Keyword} (c : MakXN X.prog X.w X.K X.mg X.base k n ks x C sp pV) (hr : Room j X.A) (hk : k + 1 ≤ j) (hg : Gl X x) (hx : Passes (L2.CX X.prog X.w) X E) (ha : PA X (e :: es) t) (hkw : PK X kws tk)
    (hall : (backToKw pos (keywordEach kws X.env)).all (·.1.isSome) = true := by rfl) (hks : (backToKw pos (keywordEach kws X.env)).filterMap (·.1) = ks := by rfl) (hdb : (x == ("__debug__" : Str)) = false := by decide)
    (he : starEach (e :: es) X.env = (false, eval e X.env) :: starEach es X.env := by rfl) (hpl : ((backTo pos (starEach (e :: es) X.env)).any (·.1) || (backToKw pos (keywordEach kws X.env)).any (·.1.isNone)) = false := by rfl) :
    PE X (.Call (.Name x p) (e :: es) kws pos) (tMakeK C n ks.length sp (fun vs zs => vs ++ pV zs) E t tk) := by
  obtain ⟨f, fd, ps, g, M, F, hm, b⟩ := c.ex
  exact pe_makeK M F (hr.mono hk) hg hm b hx ha hkw hall hks hdb he hpl
end
section
variable {X : Cx} {k j : Nat} {m : Str} {C : Addr} {sp : Sp} {dvs : List V} {E : XK} {e o : Expr} {es : List Expr} {t : TA} {ta : TE} {pos apos : Pos} {pl : Sem Bool}
theorem pe_mtx (c : MetX X.prog X.w X.K X.mg X.base k C m sp dvs) (hr : Room j X.A) (hk : k ≤ j) (hx : Passes (L2.CX X.prog X.w) X E) (he : PE X o ta) (ha : PA X (e :: es) t)
    (hst : starEach (e :: es) X.env = (false, eval e X.env) :: starEach es X.env := by rfl) (hpl : (backTo pos (starEach es X.env)).any (·.1) = false := by rfl)
    (ht : eval (.Call (.Attribute o m apos) (e :: es) [] pos) X.env = (do
      let a ← eval o X.env
      standAt apos.atName
      let (f, first) ← holding [a] (getMethod a m pl)
      callWith pos f first (backTo pos (starEach (e :: es) X.env)) (backToKw pos (keywordEach [] X.env))) := by rfl) :
    PE X (.Call (.Attribute o m apos) (e :: es) [] pos) (tMeth C m sp dvs E ta t) := by
  obtain ⟨f, fd, ps, ds, c, hm, F, b, d⟩ := c.ex
  exact pe_meth he c hm F (hr.mono hk) b d hx ha hst hpl ht
theorem pe_mtx0 (c : MetX X.prog X.w X.K X.mg X.base k C m sp dvs) (hr : Room j X.A) (hk : k ≤ j) (hx : Passes (L2.CX X.prog X.w) X E) (he : PE X o ta)
    (ht : eval (.Call (.Attribute o m apos) [] [] pos) X.env = (do
      let a ← eval o X.env
      standAt apos.atName
      let (f, first) ← holding [a] (getMethod a m pl)
      callWith pos f first (backTo pos (starEach [] X.env)) (backToKw pos (keywordEach [] X.env))) := by rfl) :
    PE X (.Call (.Attribute o m apos) [] [] pos) (tMeth C m sp dvs E ta tNil) := by
  obtain ⟨f, fd, ps, ds, c, hm, F, b, d⟩ := c.ex
  exact pe_meth0 he c hm F (hr.mono hk) b d hx ht
end
section
variable {fr : Fr} {F F' : Hp} {Γ : G} {T A : List (V × B)} {σ : L2.St} {H H' : Hp} {S S' : Addr → Own} {mg : Str → Option Value}
/-! ### making -/
def newR (k : B → Prop) (C : Addr) : List Str → List Ch → B → Prop := fun ns cs b => b = .set .non ∧ k (.two (.o none C ns cs))
theorem two_none {K : PySem.W.Frag} {me : Own} {v : V} {oa : Option Addr} {C : Addr} {ns : List Str} {cs : List Ch} (h : TwoP K S H me v (.o oa C ns cs)) : TwoP K S H me v (.o none C ns cs) := by
  obtain ⟨a, vs, as, e, sa, ⟨_, h1⟩, h2⟩ := h
  exact ⟨a, vs, as, e, sa, ⟨(fun p z => nomatch z), h1⟩, h2⟩
/-- the new one ahead of its __init__ -/
theorem run_new {C : Addr} {R : RM} {ws : List V} {zs : List Z} {Q : VK} {k : B → Prop} {Ed : Ez → Prop} {E : XK} {S1 : Addr → Own} (R2 : RelS fr F Γ T σ H S1) (hz : Zps fr.K (vw S1 H (eqO .set)) ws zs)
    (kq : ∀ b, k b → ∀ v H', Rel fr F Γ (T ++ [(v, b)]) σ H' → Q v H') (hE : Wish fr mg Ed F Γ T σ E) (hk : R [] [] zs (newR k C) (fun _ _ x => Ed x)) :
    ∀ x dx, H x = none → H dx = none → dx ≠ x → spM fr.K mg C R (.ref x :: ws) (upd (upd H dx (.own x)) x (.ins C dx [])) (fun v H2 => v = .non ∧ Q (.ref x) H2) E := by
  intro x dx hx hd ne
  have sub : ∀ y o, H y = some o → upd (upd H dx (.own x)) x (.ins C dx []) y = some o := fun y o e => by
    rw [upd_ne (ne_of_none e hx), upd_ne (ne_of_none e hd)]
    exact e
  let m : Addr → Bool := fun y => decide (y = x) || decide (y = dx)
  have mx : ∀ y, m y = true → H y = none := fun y h => by
    rcases Bool.or_eq_true_iff.mp h with h | h
    · rw [of_decide_eq_true h]; exact hx
    · rw [of_decide_eq_true h]; exact hd
  have m1 : m x = true := by simp [m]
  have m2 : m dx = true := by simp [m]
  have X : ∀ {S' H'}, GoZ (frM fr.K m (vw S1 H (eqO .set)) (upd (upd H dx (.own x)) x (.ins C dx []))) S' H' → MX fr S1 H (upd (upd H dx (.own x)) x (.ins C dx [])) H' S' m T.length (.tmp T.length) := fun g' => ⟨R2.go, sub, g', fun y h => .inl (mx y h), .inl rfl⟩
  refine ⟨vw S1 H (eqO .set), m, x, ws, [], [], zs, newR k C, fun _ _ y => Ed y, rfl, fun b o e => sub b o (vw_ex b o e), ⟨noTb_vw, R2.go.tabs.ext sub⟩, hz, fun y h => ?_, ?_, hk, ?_, ?_⟩
  · cases q : vw S1 H (eqO .set) y with
    | none => rfl
    | some o => exact absurd (vw_ex y o q) (by rw [mx y h]; simp)
  · refine ⟨x, [], [], rfl, if_pos m1, ⟨fun p e => by cases e; rfl, dx, if_pos m2, upd_same, ?_, rfl⟩, True.intro, by simp [cells]⟩
    rw [upd_ne ne, upd_same]
  · rintro ns' cs' b ⟨rfl, hb⟩ v H' S' g' h2 hv
    cases zp_non hv
    exact ⟨rfl, kq _ hb _ _ ⟨_, R2.made (X g') (two_none h2)⟩⟩
  · intro ns' cs' y hy S' Hb g' h2 cls d H' r
    exact hE y hy Hb cls d H' (Rel.drop (A := [_]) ⟨_, R2.made (X g') h2⟩) r
def zMake (C : Addr) (R : RM) (dz : List Z) (ed : Ez → Prop) (za : ZA) : ZE := fun Γ k => za Γ fun bs => tks bs fun zs => R [] [] (zs ++ dz) (newR k C) (fun _ _ x => ed x)
theorem run_make_z {C : Addr} {R : RM} {n : Nat} {t : TA} {za : ZA} {dvs : List V} {dz : List Z} {Q : VK} {k : B → Prop} {Ed : Ez → Prop} {E : XK} (ha : SA fr n t za) (hd : Zps fr.K (fun _ => none) dvs dz) (R0 : Rel fr F Γ T σ H)
    (kq : ∀ b, k b → ∀ v H', Rel fr F Γ (T ++ [(v, b)]) σ H' → Q v H') (hE : Wish fr mg Ed F Γ T σ E) (q : zMake C R dz Ed za Γ k) : tMake C (spM fr.K mg C R) dvs E t σ H Q := by
  refine ha F Γ T σ H _ _ R0 (fun bs hb A H1 e1 e2 R1 => ?_) q
  obtain ⟨S, R1⟩ := R1
  subst e1
  obtain ⟨zs, hk, hz⟩ := tks_ok R1 rfl (A1 := []) (A2 := A) rfl hb
  exact run_new R1.retm (zps_app (hz (retm T.length .set S) H1 (fun _ _ e _ => e) fun _ _ => rfl) (hd.up fun b o e => by cases e)) kq hE hk
theorem z_make {C : Addr} {R : RM} {n : Nat} {t : TA} {za : ZA} {dvs : List V} {dz : List Z} (ha : SA fr n t za) (hd : Zps fr.K (fun _ => none) dvs dz) : SE fr (tMake C (spM fr.K mg C R) dvs E0 t) (zMake C R dz (fun _ => False) za) := fun F Γ T σ H Q k R0 kq q =>
  run_make_z ha hd R0 kq noE q
theorem z_makeX {W : WX} {E : XK} {Ed : Ez → Prop} (hW : WishW fr mg Ed W) (hE : W = fun cls d _ H => E cls d H) {C : Addr} {R : RM} {n : Nat} {t : TA} {za : ZA} {dvs : List V} {dz : List Z} (ha : SA fr n t za) (hd : Zps fr.K (fun _ => none) dvs dz) : SE fr (tMake C (spM fr.K mg C R) dvs E t) (zMake C R dz Ed za) := fun F Γ T σ H Q k R0 kq q => by
  subst hE
  exact run_make_z ha hd R0 kq (hW F Γ T σ) q
theorem sx_make {C : Addr} {R : RM} {n : Nat} {t : TA} {za : ZA} {dvs : List V} {dz : List Z} (ha : SA fr n t za) (hd : Zps fr.K (fun _ => none) dvs dz) : SEX fr mg (fun E => tMake C (spM fr.K mg C R) dvs E t) (fun Ed => zMake C R dz Ed za) := fun F Γ T σ H Q k E Ed R0 kq hE q =>
  run_make_z ha hd R0 kq hE q
/-- with keywords: pZ brings them into the parameters' order, the lacking ones' values among them -/
def zMakeN (C : Addr) (R : RM) (n : Nat) (pZ : List Z → List Z) (ed : Ez → Prop) (za zk : ZA) : ZE := fun Γ k => za Γ fun bs => zk Γ fun cs => tks (bs ++ cs) fun zs => R [] [] (zs.take n ++ pZ (zs.drop n)) (newR k C) (fun _ _ x => ed x)
theorem run_makeN_z {C : Addr} {R : RM} {n m : Nat} {t tk : TA} {za zk : ZA} {pV : List V → List V} {pZ : List Z → List Z} {Q : VK} {k : B → Prop} {Ed : Ez → Prop} {E : XK} (ha : SA fr n t za) (hk : SA fr m tk zk) (hp : ∀ (H : Hp) ws l, Zps fr.K H ws l → ws.length = m → Zps fr.K H (pV ws) (pZ l)) (R0 : Rel fr F Γ T σ H)
    (kq : ∀ b, k b → ∀ v H', Rel fr F Γ (T ++ [(v, b)]) σ H' → Q v H') (hE : Wish fr mg Ed F Γ T σ E) (q : zMakeN C R n pZ Ed za zk Γ k) : tMakeK C n m (spM fr.K mg C R) (fun vs zs => vs ++ pV zs) E t tk σ H Q := by
  refine ha F Γ T σ H _ _ R0 (fun bs hb A H1 e1 e2 R1 => ?_) q
  refine hk F Γ (T ++ A) σ H1 _ _ R1 (fun cs hc A2 H2 e3 e4 R2 => ?_) hb
  rw [List.append_assoc] at R2
  obtain ⟨S, R2⟩ := R2
  subst e1
  subst e3
  rw [← List.map_append] at hc
  obtain ⟨zs, hk, hz⟩ := tks_ok R2 rfl (A1 := []) (A2 := A ++ A2) rfl hc
  have hz := hz (retm T.length .set S) H2 (fun _ _ e _ => e) fun _ _ => rfl
  rw [List.map_append] at hz
  have l1 : (A.map (·.1)).length = n := by rw [List.length_map]; exact e2
  have l2 : (A2.map (·.1)).length = m := by rw [List.length_map]; exact e4
  have h1 := zps_take n hz
  have h2 := zps_drop n hz
  rw [← l1, List.take_left] at h1
  rw [← l1, List.drop_left] at h2
  rw [l1] at h1 h2
  refine ⟨l1, l2, fun x dx hx hd ne => ?_⟩
  have := run_new (C := C) (R := R) (mg := mg) R2.retm (zps_app h1 (hp _ _ _ h2 l2)) kq hE hk x dx hx hd ne
  exact this
theorem z_makeN {C : Addr} {R : RM} {n m : Nat} {t tk : TA} {za zk : ZA} {pV : List V → List V} {pZ : List Z → List Z} (ha : SA fr n t za) (hk : SA fr m tk zk) (hp : ∀ (H : Hp) ws l, Zps fr.K H ws l → ws.length = m → Zps fr.K H (pV ws) (pZ l)) : SE fr (tMakeK C n m (spM fr.K mg C R) (fun vs zs => vs ++ pV zs) E0 t tk) (zMakeN C R n pZ (fun _ => False) za zk) := fun F Γ T σ H Q k R0 kq q =>
  run_makeN_z ha hk hp R0 kq noE q
theorem z_makeNX {W : WX} {E : XK} {Ed : Ez → Prop} (hW : WishW fr mg Ed W) (hE : W = fun cls d _ H => E cls d H) {C : Addr} {R : RM} {n m : Nat} {t tk : TA} {za zk : ZA} {pV : List V → List V} {pZ : List Z → List Z} (ha : SA fr n t za) (hk : SA fr m tk zk) (hp : ∀ (H : Hp) ws l, Zps fr.K H ws l → ws.length = m → Zps fr.K H (pV ws) (pZ l)) : SE fr (tMakeK C n m (spM fr.K mg C R) (fun vs zs => vs ++ pV zs) E t tk) (zMakeN C R n pZ Ed za zk) := fun F Γ T σ H Q k R0 kq q => by
  subst hE
  exact run_makeN_z ha hk hp R0 kq (hW F Γ T σ) q
theorem sx_makeN {C : Addr} {R : RM} {n m : Nat} {t tk : TA} {za zk : ZA} {pV : List V → List V} {pZ : List Z → List Z} (ha : SA fr n t za) (hk : SA fr m tk zk) (hp : ∀ (H : Hp) ws l, Zps fr.K H ws l → ws.length = m → Zps fr.K H (pV ws) (pZ l)) : SEX fr mg (fun E => tMakeK C n m (spM fr.K mg C R) (fun vs zs => vs ++ pV zs) E t tk) (fun Ed => zMakeN C R n pZ Ed za zk) := fun F Γ T σ H Q k E Ed R0 kq hE q =>
  run_makeN_z ha hk hp R0 kq hE q
/-- a pure method that may raise -/
theorem sx_meth {C : Addr} {m : Str} {R : RZs} {n : Nat} {te : TE} {t : TA} {ze : ZE} {za : ZA} {dvs : List V} {dz : List Z} (he : SE fr te ze) (ha : SA fr n t za) (hd : Zps fr.K (fun _ => none) dvs dz) : SEX fr mg (fun E => tMeth C m (spZ fr.K mg R) dvs E te t) (fun Ed => zMeth C m R dz Ed ze za) := fun F Γ T σ H Q k E Ed R0 kq hE q =>
  run_meth he ha hd R0 kq hE q
theorem z_methX {W : WX} {E : XK} {Ed : Ez → Prop} (hW : WishW fr mg Ed W) (hE : W = fun cls d _ H => E cls d H) {C : Addr} {m : Str} {R : RZs} {n : Nat} {te : TE} {t : TA} {ze : ZE} {za : ZA} {dvs : List V} {dz : List Z} (he : SE fr te ze) (ha : SA fr n t za) (hd : Zps fr.K (fun _ => none) dvs dz) : SE fr (tMeth C m (spZ fr.K mg R) dvs E te t) (zMeth C m R dz Ed ze za) := fun F Γ T σ H Q k R0 kq q => by
  subst hE
  exact run_meth he ha hd R0 kq (hW F Γ T σ) q
/-- a pure method, all that is handed in being settled -/
def zMethS (C : Addr) (m : Str) (R : RZs) (dz : List Z) (ed : Ez → Prop) (ze : ZE) (za : ZA) : ZE := fun Γ k => ze Γ fun b => match b.z with
  | some (.obj D ns l) => D = C ∧ fldZ ns l m = none ∧ za Γ fun bs => tks (b :: bs) fun zs => R (zs ++ dz) (resS k) ed
  | _ => False
theorem run_methS {C : Addr} {m : Str} {R : RZs} {n : Nat} {te : TE} {t : TA} {ze : ZE} {za : ZA} {dvs : List V} {dz : List Z} {Q : VK} {k : B → Prop} {Ed : Ez → Prop} {E : XK} (he : SE fr te ze) (ha : SA fr n t za) (hd : Zps fr.K (fun _ => none) dvs dz) (R0 : Rel fr F Γ T σ H)
    (kq : ∀ b, k b → ∀ v H', Rel fr F Γ (T ++ [(v, b)]) σ H' → Q v H') (hE : Wish fr mg Ed F Γ T σ E) (q : zMethS C m R dz Ed ze za Γ k) : tMeth C m (spZ fr.K mg R) dvs E te t σ H Q := by
  refine he F Γ T σ H _ _ R0 (fun b hb v H1 R1 => ?_) q
  split at hb
  · rename_i D ns l e
    obtain ⟨rfl, hno, hb⟩ := hb
    obtain ⟨a, dx, vs, rfl, h1, _, _, h4⟩ := zp_obj (R1.zp (j := 0) rfl e)
    refine ⟨a, dx, _, rfl, h1, fld_no h4 hno, ?_⟩
    refine ha F Γ _ σ H1 _ _ R1 (fun bs hb A H2 e1 e2 R2 => ?_) hb
    rw [List.append_assoc] at R2
    have R2' := R2
    obtain ⟨S, R2⟩ := R2
    subst e1
    obtain ⟨zs, hk, hz⟩ := tks_ok R2 rfl (A1 := []) (A2 := [(V.ref a, b)] ++ A) rfl hb
    have hz := hz (retm T.length .set S) H2 (fun _ _ e _ => e) fun _ _ => rfl
    have R3 := R2.retm
    refine ⟨vw (retm T.length .set S) H2 (eqO .set), zs ++ dz, resS k, Ed, vw_ex, ⟨noTb_vw, R2.go.tabs⟩, zps_app hz (hd.up fun b o e => by cases e), hk, fun b hb v H' ⟨S', g', hp⟩ => ?_, fun x hx Hb cls d H' kp r => ?_⟩
    · obtain ⟨c, h1, h2⟩ := P_resS (S := retm T.length .set S) (n := T.length) rfl g' hp hb
      exact kq _ h1 v H' ⟨_, RelS.call (A := []) (b := b) (by rw [List.append_nil]; exact R3) g' h2⟩
    · exact hE x hx Hb cls d H' ((Rel.drop R2').grown kp) r
  · exact hb.elim
theorem z_methS {C : Addr} {m : Str} {R : RZs} {n : Nat} {te : TE} {t : TA} {ze : ZE} {za : ZA} {dvs : List V} {dz : List Z} (he : SE fr te ze) (ha : SA fr n t za) (hd : Zps fr.K (fun _ => none) dvs dz) : SE fr (tMeth C m (spZ fr.K mg R) dvs E0 te t) (zMethS C m R dz (fun _ => False) ze za) := fun F Γ T σ H Q k R0 kq q =>
  run_methS he ha hd R0 kq noE q
theorem sx_methS {C : Addr} {m : Str} {R : RZs} {n : Nat} {te : TE} {t : TA} {ze : ZE} {za : ZA} {dvs : List V} {dz : List Z} (he : SE fr te ze) (ha : SA fr n t za) (hd : Zps fr.K (fun _ => none) dvs dz) : SEX fr mg (fun E => tMeth C m (spZ fr.K mg R) dvs E te t) (fun Ed => zMethS C m R dz Ed ze za) := fun F Γ T σ H Q k E Ed R0 kq hE q =>
  run_methS he ha hd R0 kq hE q
/-! ### expressions that turn a slot's object -/
abbrev ZM := (G → Ez → Prop) → G → (G → B → Prop) → Prop
def SM (fr : Fr) (mg : Str → Option Value) (t : XK → TE) (z : ZM) : Prop := ∀ (F : Hp) (Γ : G) (σ : L2.St) (H : Hp) (Q : VK) (k : G → B → Prop) (E : XK) (Ed : G → Ez → Prop), Rel fr F Γ [] σ H → (∀ Γ' b, k Γ' b → ∀ v H', Rel fr F Γ' [(v, b)] σ H' → Q v H') →
  (∀ Γ' x, Ed Γ' x → ∀ Hb cls d H', Rel fr F Γ' [] σ Hb → RaisedZ fr.K mg x Hb cls d H' → E cls d H') → z Ed Γ k → t E σ H Q
def zmOf (z : (Ez → Prop) → ZE) : ZM := fun Ed Γ k => z (Ed Γ) Γ (k Γ)
theorem sm_of {t : XK → TE} {z : (Ez → Prop) → ZE} (h : SEX fr mg t z) : SM fr mg t (zmOf z) := fun F Γ σ H Q k E Ed R kq hE q => h F Γ [] σ H Q (k Γ) E (Ed Γ) R (fun b hb v H' R' => kq Γ b hb v H' R') (fun x hx Hb cls d H' R' r => hE Γ x hx Hb cls d H' R' r) q
def zmMt (i : Nat) (C : Addr) (m : Str) (R : RM) (dz : List Z) (za : ZA) : ZM := fun Ed Γ k => match Γ[i]? with
  | some (some (.two (.o oa D ns cs))) => D = C ∧ fldZ ns (cs.map Ch.z) m = none ∧ za Γ fun bs => tks bs fun zs => R ns cs (zs ++ dz) (fun ns' cs' => resS (k (Γ.set i (some (.two (.o oa C ns' cs')))))) (fun ns' cs' x => Ed (Γ.set i (some (.two (.o oa C ns' cs')))) x)
  | _ => False
theorem ChPs.mu {K : PySem.W.Frag} {S2 : Addr → Own} {me me' : Own} (leS : Le (vw S H (eqO .set)) (vw S2 H (eqO .set))) (kk : ∀ b o, H b = some o → isMu o = true → S b = me → S2 b = me') : ∀ {vs : List V} {as : List (Option Addr)} {cs : List Ch}, ChPs K S H me vs as cs → ChPs K S2 H me' vs as cs
  | [], [], [], _ => True.intro
  | _ :: _, _ :: _, c :: _, ⟨h, r⟩ => ⟨by
      cases c with
      | s z => exact ⟨h.1, h.2.up leS⟩
      | l zs => obtain ⟨x, us, e, rfl, s, h1, h2⟩ := h; exact ⟨x, us, e, rfl, kk _ _ h1 rfl s, h1, h2.up leS⟩
      | k ks zs => obtain ⟨x, us, e, rfl, s, h1, h2, h3⟩ := h; exact ⟨x, us, e, rfl, kk _ _ h1 rfl s, h1, h2, h3.up leS⟩
      | t ks zs => obtain ⟨x, us, e, rfl, s, h1, h2, h3⟩ := h; exact ⟨x, us, e, rfl, kk _ _ h1 rfl s, h1, h2, h3.up leS⟩, ChPs.mu leS kk r⟩
  | [], [], _ :: _, h => h.elim
  | [], _ :: _, _, h => by cases ‹List Ch› <;> exact h.elim
  | _ :: _, [], _, h => by cases ‹List Ch› <;> exact h.elim
  | _ :: _, _ :: _, [], h => h.elim
theorem two_with {K : PySem.W.Frag} {me : Own} {a : Addr} {oa oa' : Option Addr} {C : Addr} {ns : List Str} {cs : List Ch} (h : TwoP K S H me (.ref a) (.o oa C ns cs)) (e : ∀ p, oa' = some p → a = p) : TwoP K S H me (.ref a) (.o oa' C ns cs) := by
  obtain ⟨a', vs, as, ea, sa, ⟨_, h1⟩, h2⟩ := h
  cases ea
  exact ⟨a, vs, as, rfl, sa, ⟨e, h1⟩, h2⟩
theorem sm_mt {i : Nat} {C : Addr} {m : Str} {R : RM} {n : Nat} {t : TA} {za : ZA} {dvs : List V} {dz : List Z} (ha : SA fr n t za) (hd : Zps fr.K (fun _ => none) dvs dz) : SM fr mg (fun E => tMeth C m (spM fr.K mg C R) dvs E (tVar i) t) (zmMt i C m R dz za) := by
  intro F Γ σ H Q k E Ed R0 kq hE q
  unfold zmMt at q
  split at q
  · rename_i oa D ns cs e
    obtain ⟨rfl, hno, q⟩ := q
    obtain ⟨S0, R00⟩ := id R0
    obtain ⟨w, hw, hp0⟩ := R00.sl i _ e
    obtain ⟨a, vs, as, rfl, sa, ⟨ho, dx, sd, h4, h5, h6⟩, h2, nd⟩ := id hp0
    have hz0 : Zp fr.K (vw S0 H allO) (.ref a) (.obj D ns (cs.map Ch.z)) := TwoP.all rfl rfl hp0
    refine ⟨_, hw, a, dx, _, rfl, h4, ?_, ?_⟩
    · exact fld_no (ChPs.all (p := allO) rfl rfl h2) hno
    have Rv : Rel fr F Γ ([] ++ [(V.ref a, B.bor true [i] (.obj D ns (cs.map Ch.z)))]) σ H := ⟨S0, RelS.same (A := []) (T := []) R00 (TwoP.all (borO_iff.mpr (.inl ⟨rfl, rfl⟩)) (borO_iff.mpr (.inr (.inr ⟨i, .head _, rfl⟩))) hp0)⟩
    refine ha F Γ _ σ H _ _ Rv (fun bs hb A H1 e1 e2 R1 => ?_) q
    obtain ⟨S, R1⟩ := R1
    subst e1
    obtain ⟨zs, hk, hz⟩ := tks_ok R1 rfl (A1 := []) (A2 := A) rfl hb
    have hz := hz (retm 1 .set S) H1 (fun _ _ e _ => e) fun _ _ => rfl
    have R2 := R1.retm
    have R2 : RelS fr F Γ [] σ H1 (retm 1 .set S) := ⟨R2.go, R2.f, R2.len, R2.sl, fun j v b e => by simp at e, R2.nb⟩
    generalize retm 1 .set S = S1 at hz R2
    obtain ⟨w, hw', hp⟩ := R2.sl i _ e
    rw [hw] at hw'
    cases hw'
    let m : Addr → Bool := fun x => decide (S1 x = .slot i) && (match H1 x with | some o => isMu o | none => false)
    have m_of : ∀ x, m x = true → S1 x = .slot i ∧ ∃ o, H1 x = some o ∧ isMu o = true := fun x h => by
      have h := Bool.and_eq_true_iff.mp h
      refine ⟨of_decide_eq_true h.1, ?_⟩
      have h2 := h.2
      cases q : H1 x with
      | none => rw [q] at h2; cases h2
      | some o => rw [q] at h2; exact ⟨o, rfl, h2⟩
    have m_at : ∀ x o, S1 x = .slot i → H1 x = some o → isMu o = true → m x = true := fun x o h1 h2 h3 => by
      refine Bool.and_eq_true_iff.mpr ⟨decide_eq_true h1, ?_⟩
      rw [h2]
      exact h3
    have nE : ∀ x, m x = true → vw S1 H1 (eqO .set) x = none := fun x h => by
      obtain ⟨h1, o, h2, h3⟩ := m_of x h
      cases q : vw S1 H1 (eqO .set) x with
      | none => rfl
      | some u =>
        obtain ⟨e1, e2, e3⟩ := vw_of q
        rw [h2] at e1
        cases e1
        rcases e3 with c | c
        · rw [(isMu_no h3).1] at c; cases c
        · have c : S1 x = .set := of_decide_eq_true c
          rw [h1] at c; cases c
    have X : ∀ {S' H'}, GoZ (frM fr.K m (vw S1 H1 (eqO .set)) H1) S' H' → MX fr S1 H1 H1 H' S' m 0 (.slot i) := fun g' => ⟨R2.go, fun _ _ e => e, g', fun x h => .inr (m_of x h), .inr ⟨i, rfl⟩⟩
    have leS : Le (vw S1 H1 (eqO .set)) (vw (ownM (vw S1 H1 (eqO .set)) m) H1 (eqO .set)) := fun x o e => vw_at (vw_ex x o e) (vw_of e).2.1 (.inr (decide_eq_true (by
      unfold ownM
      rw [if_neg (fun z => by rw [nE x z] at e; cases e), if_pos (by rw [e]; rfl)])))
    have two0 : TwoP fr.K (ownM (vw S1 H1 (eqO .set)) m) H1 (.slot 0) (.ref a) (.o oa D ns cs) := by
      obtain ⟨a', vs', as', ea, sa', hr', hc', nd'⟩ := hp
      have kk : ∀ b o, H1 b = some o → isMu o = true → S1 b = .slot i → ownM (vw S1 H1 (eqO .set)) m b = .slot 0 := fun b o e q s => if_pos (m_at b o s e q)
      obtain ⟨ho', dx', sd', g4, g5, g6⟩ := hr'
      refine ⟨a', vs', as', ea, kk _ _ g4 rfl sa', ⟨ho', dx', kk _ _ g5 rfl sd', g4, g5, g6⟩, ?_, nd'⟩
      exact ChPs.mu leS kk hc'
    have back : ∀ {S' H' ns' cs'}, TwoP fr.K S' H' (.slot 0) (.ref a) (.o (some a) D ns' cs') → TwoP fr.K S' H' (.slot 0) (.ref a) (.o oa D ns' cs') := fun h => two_with h fun p z => by
      obtain ⟨a', vs', as', ea, _, ⟨ho', _⟩, _⟩ := hp
      cases ea
      exact ho' p z
    refine ⟨vw S1 H1 (eqO .set), m, a, _, ns, cs, zs ++ dz, _, _, rfl, vw_ex, ⟨noTb_vw, R2.go.tabs⟩, zps_app hz (hd.up fun b o e => by cases e), nE, two_with two0 (fun p z => by cases z; rfl), hk, fun ns' cs' b hb v H' S' g' h2 hv => ?_, fun ns' cs' x hx S' Hb g' h2 cls d H' r => ?_⟩
    · obtain ⟨c, c1, _, c2⟩ := (X g').res hv hb
      exact kq _ _ c1 v H' ⟨_, R2.mutd (X g') e hw (back h2) c2⟩
    · exact hE _ x hx Hb cls d H' (Rel.nil (T := [(V.non, B.dead)]) ⟨_, R2.mutd (X g') e hw (back h2) True.intro⟩) r
  · exact q.elim
/-! ### such expressions in statements -/
/-- none is raised -/
theorem noG {E : XK} : ∀ (Γ' : G) (x : Ez), False → ∀ Hb cls d H', Rel fr F Γ' [] σ Hb → RaisedZ fr.K mg x Hb cls d H' → E cls d H' := fun _ _ h => h.elim
def zmAsg (Ed : G → Ez → Prop) (z : ZM) (g : ZG) : ZS := fun D Γ => z Ed Γ fun Γ' b => g b Γ' D.nx
theorem m_asg {t : XK → TE} {z : ZM} {g : TG} {zg : ZG} {E : XK} (h : SM fr mg t z) (hg : SG fr g zg) : SS fr (tAsg (t E) g) (zmAsg (fun _ _ => False) z zg) := fun F Γ σ H zD D R hD q =>
  h F Γ σ H _ _ _ _ R (fun Γ1 b hb v H1 R1 => hg F Γ1 [] σ H1 v b _ _ R1 (fun Γ' q' σ' H' R' => hD.nx Γ' σ' H' R' q') hb) noG q
theorem m_asgX {t : XK → TE} {z : ZM} {g : TG} {zg : ZG} {E : XK} {W : WX} {Ed : G → Ez → Prop} (hW : WishG fr mg Ed W) (eW : W = fun cls d _ H => E cls d H) (h : SM fr mg t z) (hg : SG fr g zg) : SS fr (tAsg (t E) g) (zmAsg Ed z zg) := fun F Γ σ H zD D R hD q => by
  subst eW
  exact h F Γ σ H _ _ _ _ R (fun Γ1 b hb v H1 R1 => hg F Γ1 [] σ H1 v b _ _ R1 (fun Γ' q' σ' H' R' => hD.nx Γ' σ' H' R' q') hb) (fun Γ' x hx Hb cls d H' R' r => hW F Γ' [] σ x hx Hb cls d H' R' r) q
/-- x = e, the value staying one's own -/
def zgKeep (i : Nat) : ZG := fun b Γ k => b.kp fun c => k (Γ.set i (some c))
theorem zg_keep (i : Nat) : SG fr (gName i) (zgKeep i) := by
  intro F Γ T σ H v b Q k R kq q
  have key : ∀ c : B, c.brw = false → Rel fr F Γ (T ++ [(v, c)]) σ H → k (Γ.set i (some c)) → Q (σ.set i (some v)) H := fun c hc R2 hx => kq _ hx _ _ (R2.store i hc)
  cases b with
  | bor st is z => exact key (.set z) rfl (R.immB rfl q.1) q.2
  | set z => exact key (.set z) rfl R q
  | own z => exact key (.own z) rfl R q
  | frs z => exact key (.frs z) rfl R q
  | drw z => exact key (.drw z) rfl R q
  | dead => exact key .dead rfl R q
  | wld s => exact key (.wld s) rfl R q
  | two r => exact key (.two r) rfl R q
  | bwl i s => exact q.elim
end
end Rt

namespace Rt
open PySem PySem.Spec PyProof.Rows L2 RZ TL LamX
/-! ### rows of numbers -/
/-- rows of numbers stand as tuples at the addresses -/
def Rws (G : Hp) (qs : List Addr) (rs : List (List Int)) : Prop := Paired (fun q ns => G q = some (.tup (ns.map V.int))) qs rs
theorem Rws.up {G G' : Hp} {qs : List Addr} {rs : List (List Int)} (h : Rws G qs rs) (x : Ex G G') : Rws G' qs rs := Paired.mapP h fun _ _ z => x _ _ z
theorem Rws.len {G : Hp} {qs : List Addr} {rs : List (List Int)} (h : Rws G qs rs) : qs.length = rs.length := Paired.length h
theorem pairedApp {α β : Type} {F : α → β → Prop} : ∀ {a c : List α} {b d : List β}, Paired F a b → Paired F c d → Paired F (a ++ c) (b ++ d)
  | _, _, _, _, .nil, h => h
  | _, _, _, _, .cons r t, h => .cons r (pairedApp t h)
theorem pairedTake {α β : Type} {F : α → β → Prop} : ∀ {a : List α} {b : List β} (n : Nat), Paired F a b → Paired F (a.take n) (b.take n)
  | _, _, 0, _ => .nil
  | _, _, n + 1, .nil => .nil
  | _, _, n + 1, .cons r t => .cons r (pairedTake n t)
theorem pairedDrop {α β : Type} {F : α → β → Prop} : ∀ {a : List α} {b : List β} (n : Nat), Paired F a b → Paired F (a.drop n) (b.drop n)
  | _, _, 0, h => h
  | _, _, n + 1, .nil => .nil
  | _, _, n + 1, .cons r t => pairedDrop n t
theorem pairedAt {α β : Type} {F : α → β → Prop} : ∀ {l : List α} {m : List β}, Paired F l m → ∀ {i : Nat} {x : α}, l[i]? = some x → ∃ y, m[i]? = some y ∧ F x y
  | _, _, .nil, i, x, h => by simp at h
  | _, _, .cons r t, 0, x, h => by
    cases h
    exact ⟨_, rfl, r⟩
  | _, _, .cons r t, i + 1, x, h => pairedAt t (i := i) h
/-- the rows of a thing: what stands behind its word -/
def Evt.row : Evt → List Int
  | .key _ _ c k f => [c, k, f]
  | .knob _ c k v => [c, k, v]
  | .voice _ c v => [c, v]
  | .mark .. => []
def rck (r : List Int) : Int × Int := (r.getD 0 0, r.getD 1 0)
def leCK (a b : Int × Int) : Bool := decide (a.1 < b.1 ∨ a.1 = b.1 ∧ a.2 ≤ b.2)
def delF (p : List Int → Bool) : List (List Int) → List (List Int)
  | [] => []
  | x :: xs => if p x = true then xs else x :: delF p xs
theorem delF_none {p : List Int → Bool} : ∀ {S : List (List Int)}, (∀ x ∈ S, p x = false) → delF p S = S
  | [], _ => rfl
  | x :: xs, h => by
    unfold delF
    rw [if_neg (by rw [h x (.head _)]; exact Bool.false_ne_true), delF_none fun y hy => h y (.tail _ hy)]
theorem delF_at {p : List Int → Bool} : ∀ {S : List (List Int)} {i : Nat} {x : List Int}, S[i]? = some x → p x = true → (∀ y ∈ S.take i, p y = false) → delF p S = S.take i ++ S.drop (i + 1)
  | [], i, x, h, _, _ => by simp at h
  | y :: ys, 0, x, h, hp, _ => by
    cases h
    unfold delF
    rw [if_pos hp]
    rfl
  | y :: ys, i + 1, x, h, hp, hn => by
    unfold delF
    rw [if_neg (by rw [hn y (.head _)]; exact Bool.false_ne_true), delF_at (S := ys) (i := i) (x := x) h hp fun z hz => hn z (.tail _ hz)]
    rfl
/-- what sounds behind one thing more -/
def insN (S : List (List Int)) (r : List Int) : List (List Int) := let n := (S.filter fun x => leCK (rck x) (rck r)).length; S.take n ++ [r] ++ S.drop n
def sndA (S : List (List Int)) : Evt → List (List Int)
  | .key true _ c k f => insN S [c, k, f]
  | .key false _ c k _ => delF (fun x => decide (rck x = (c, k))) S
  | _ => S
/-- rising rows -/
def leR (a b : List Int) : Bool := decide (TS.code 128 a ≤ TS.code 128 b)
def srt (rs : List (List Int)) : List (List Int) := rs.mergeSort leR
/-- what is set behind one thing more -/
def setA (rs : List (List Int)) (r : List Int) : List (List Int) := let kept := rs.filter fun x => decide (x.dropLast ≠ r.dropLast); if r.getLastD 0 = 0 then kept else srt (kept ++ [r])
structure Sta where
  snd : List (List Int)
  knb : List (List Int)
  voi : List (List Int)
def Sta.nil : Sta := ⟨[], [], []⟩
def Sta.after (s : Sta) (e : Evt) : Sta :=
  ⟨sndA s.snd e, (match e with | .knob .. => setA s.knb e.row | _ => s.knb), (match e with | .voice .. => setA s.voi e.row | _ => s.voi)⟩
/-- each row has d numbers from 0 to 127 -/
def RowsB (d : Nat) (rs : List (List Int)) : Prop := ∀ r ∈ rs, r.length = d ∧ TS.Bd 128 r
structure Sta.Ok (s : Sta) (n : Nat) : Prop where
  b1 : RowsB 3 s.snd
  b2 : RowsB 3 s.knb
  b3 : RowsB 2 s.voi
  l1 : s.snd.length ≤ n
  l2 : s.knb.length ≤ n
  l3 : s.voi.length ≤ n
theorem Evt.Ok.row {e : Evt} (h : e.Ok) : TS.Bd 128 e.row := by
  intro m hm
  cases e with
  | key b t c k f =>
    have h4 : low b ≤ f ∧ f ≤ 127 := h.2.2.2
    have h5 : (0 : Int) ≤ low b := by cases b <;> decide
    simp only [Evt.row, List.mem_cons, List.mem_nil_iff, or_false] at hm
    rcases hm with rfl | rfl | rfl
    · exact ⟨h.2.1.1, by have := h.2.1.2; omega⟩
    · exact ⟨h.2.2.1.1, by have := h.2.2.1.2; omega⟩
    · exact ⟨by omega, by omega⟩
  | knob t c k v =>
    simp only [Evt.row, List.mem_cons, List.mem_nil_iff, or_false] at hm
    rcases hm with rfl | rfl | rfl
    · exact ⟨h.2.1.1, by have := h.2.1.2; omega⟩
    · exact ⟨h.2.2.1.1, by have := h.2.2.1.2; omega⟩
    · exact ⟨h.2.2.2.1, by have := h.2.2.2.2; omega⟩
  | voice t c v =>
    simp only [Evt.row, List.mem_cons, List.mem_nil_iff, or_false] at hm
    rcases hm with rfl | rfl
    · exact ⟨h.2.1.1, by have := h.2.1.2; omega⟩
    · exact ⟨h.2.2.1, by have := h.2.2.2; omega⟩
  | mark t s => exact nomatch hm
theorem RowsB.filter {d : Nat} {rs : List (List Int)} (h : RowsB d rs) (p : List Int → Bool) : RowsB d (rs.filter p) := fun r hr => h r (List.mem_filter.mp hr).1
theorem RowsB.app {d : Nat} {rs qs : List (List Int)} (h : RowsB d rs) (h2 : RowsB d qs) : RowsB d (rs ++ qs) := fun r hr => (List.mem_append.mp hr).elim (h r) (h2 r)
theorem RowsB.one {d : Nat} {r : List Int} (h : r.length = d) (h2 : TS.Bd 128 r) : RowsB d [r] := fun x hx => by rw [List.mem_singleton.mp hx]; exact ⟨h, h2⟩
theorem RowsB.sub {d : Nat} {rs qs : List (List Int)} (h : RowsB d rs) (x : ∀ r ∈ qs, r ∈ rs) : RowsB d qs := fun r hr => h r (x r hr)
theorem delF_sub (p : List Int → Bool) : ∀ (S : List (List Int)) (r : List Int), r ∈ delF p S → r ∈ S
  | [], r, h => h
  | x :: xs, r, h => by
    unfold delF at h
    split at h
    · exact .tail _ h
    · rcases List.mem_cons.mp h with rfl | h
      · exact .head _
      · exact .tail _ (delF_sub p xs r h)
theorem delF_len (p : List Int → Bool) : ∀ (S : List (List Int)), (delF p S).length ≤ S.length
  | [] => Nat.le_refl _
  | x :: xs => by
    unfold delF
    split
    · exact Nat.le_succ _
    · exact Nat.succ_le_succ (delF_len p xs)
theorem insN_mem {S : List (List Int)} {r x : List Int} : x ∈ insN S r ↔ x = r ∨ x ∈ S := by
  unfold insN
  dsimp only
  generalize (S.filter fun x => leCK (rck x) (rck r)).length = n
  rw [List.append_assoc, List.mem_append, List.mem_append, List.mem_singleton]
  refine ⟨fun h => ?_, fun h => ?_⟩
  · rcases h with h | h | h
    · exact .inr (List.mem_of_mem_take h)
    · exact .inl h
    · exact .inr (List.mem_of_mem_drop h)
  · rcases h with h | h
    · exact .inr (.inl h)
    · rw [← List.take_append_drop n S, List.mem_append] at h
      exact h.elim .inl fun z => .inr (.inr z)
theorem insN_len (S : List (List Int)) (r : List Int) : (insN S r).length = S.length + 1 := by
  unfold insN
  dsimp only
  generalize (S.filter fun x => leCK (rck x) (rck r)).length = n
  rw [List.length_append, List.length_append, List.length_take, List.length_drop, List.length_singleton]
  omega
theorem srt_mem {rs : List (List Int)} {r : List Int} : r ∈ srt rs ↔ r ∈ rs := (List.mergeSort_perm rs leR).mem_iff
theorem srt_len (rs : List (List Int)) : (srt rs).length = rs.length := (List.mergeSort_perm rs leR).length_eq
theorem setA_ok {d n : Nat} {rs : List (List Int)} {r : List Int} (h : RowsB d rs) (hr : r.length = d) (hb : TS.Bd 128 r) (hl : rs.length ≤ n) : RowsB d (setA rs r) ∧ (setA rs r).length ≤ n + 1 := by
  unfold setA
  dsimp only
  have l := List.length_filter_le (fun x => decide (x.dropLast ≠ r.dropLast)) rs
  split
  · exact ⟨h.filter _, by omega⟩
  · refine ⟨((h.filter _).app (.one hr hb)).sub fun x hx => srt_mem.mp hx, ?_⟩
    rw [srt_len, List.length_append, List.length_singleton]
    omega
theorem Sta.Ok.after {s : Sta} {n : Nat} {e : Evt} (h : s.Ok n) (he : e.Ok) : (s.after e).Ok (n + 1) := by
  have hb := he.row
  have sn : RowsB 3 (sndA s.snd e) ∧ (sndA s.snd e).length ≤ n + 1 := by
    cases e with
    | key b t c k f =>
      cases b with
      | true => exact ⟨fun x hx => (insN_mem.mp hx).elim (fun z => by rw [z]; exact ⟨rfl, hb⟩) (h.b1 x), by show (insN _ _).length ≤ _; rw [insN_len]; have := h.l1; omega⟩
      | false => exact ⟨h.b1.sub (delF_sub _ _), Nat.le_succ_of_le (Nat.le_trans (delF_len _ _) h.l1)⟩
    | knob t c k v => exact ⟨h.b1, Nat.le_succ_of_le h.l1⟩
    | voice t c v => exact ⟨h.b1, Nat.le_succ_of_le h.l1⟩
    | mark t x => exact ⟨h.b1, Nat.le_succ_of_le h.l1⟩
  cases e with
  | key b t c k f => exact ⟨sn.1, h.b2, h.b3, sn.2, Nat.le_succ_of_le h.l2, Nat.le_succ_of_le h.l3⟩
  | knob t c k v =>
    have z := setA_ok (r := [c, k, v]) h.b2 rfl hb h.l2
    exact ⟨sn.1, z.1, h.b3, sn.2, z.2, Nat.le_succ_of_le h.l3⟩
  | voice t c v =>
    have z := setA_ok (r := [c, v]) h.b3 rfl hb h.l3
    exact ⟨sn.1, h.b2, z.1, sn.2, Nat.le_succ_of_le h.l2, z.2⟩
  | mark t x => exact ⟨sn.1, h.b2, h.b3, sn.2, Nat.le_succ_of_le h.l2, Nat.le_succ_of_le h.l3⟩
theorem Sta.Ok.nil : Sta.nil.Ok 0 := ⟨(fun _ h => nomatch h), (fun _ h => nomatch h), (fun _ h => nomatch h), Nat.le_refl _, Nat.le_refl _, Nat.le_refl _⟩
/-- the order of tuples of two -/
theorem le_pair (a b c d : Int) : Ob.lexAt (fun j => decide (([a, b] : List Int).getD j 0 = ([c, d] : List Int).getD j 0)) (fun j => decide (([a, b] : List Int).getD j 0 ≤ ([c, d] : List Int).getD j 0)) (decide (([a, b] : List Int).length ≤ ([c, d] : List Int).length)) 0 (min ([a, b] : List Int).length ([c, d] : List Int).length) = leCK (a, b) (c, d) := by
  show (if decide (a = c) = true then (if decide (b = d) = true then true else decide (b ≤ d)) else decide (a ≤ c)) = decide (a < c ∨ a = c ∧ b ≤ d)
  by_cases h1 : a = c
  · rw [if_pos (decide_eq_true h1)]
    by_cases h2 : b = d
    · rw [if_pos (decide_eq_true h2), decide_eq_true (.inr ⟨h1, by omega⟩)]
    · rw [if_neg (fun z => h2 (of_decide_eq_true z))]
      by_cases h3 : b ≤ d
      · rw [decide_eq_true h3, decide_eq_true (.inr ⟨h1, h3⟩)]
      · rw [decide_eq_false h3, decide_eq_false (fun z => z.elim (by omega) fun y => h3 y.2)]
  · rw [if_neg (fun z => h1 (of_decide_eq_true z))]
    by_cases h3 : a ≤ c
    · rw [decide_eq_true h3, decide_eq_true (.inl (by omega))]
    · rw [decide_eq_false h3, decide_eq_false (fun z => z.elim (by omega) fun y => h1 y.1)]
/-! ### sorted rows -/
theorem code_inj : ∀ {r q : List Int}, r.length = q.length → TS.Bd 128 r → TS.Bd 128 q → TS.code 128 r = TS.code 128 q → r = q
  | [], [], _, _, _, _ => rfl
  | x :: r, y :: q, hl, hr, hq, e => by
    have hl' : r.length = q.length := by simpa using hl
    rcases Int.lt_trichotomy x y with h | h | h
    · have := TS.code_lt hl' hr.tail hq.tail h
      omega
    · subst h
      have e' : TS.code 128 r = TS.code 128 q := by
        have e : x * 128 ^ r.length + TS.code 128 r = x * 128 ^ q.length + TS.code 128 q := e
        rw [hl'] at e
        omega
      rw [code_inj hl' hr.tail hq.tail e']
    · have := TS.code_lt hl'.symm hq.tail hr.tail h
      omega
theorem srt_sorted (rs : List (List Int)) : (srt rs).Pairwise fun a b => TS.code 128 a ≤ TS.code 128 b := by
  have := List.pairwise_mergeSort (le := leR) (fun a b c h1 h2 => decide_eq_true (Int.le_trans (of_decide_eq_true h1) (of_decide_eq_true h2))) (fun a b => by
    unfold leR
    rcases Int.le_total (TS.code 128 a) (TS.code 128 b) with h | h
    · rw [decide_eq_true h]; rfl
    · rw [decide_eq_true h, Bool.or_true]) rs
  exact this.imp fun h => of_decide_eq_true h
/-- what is sorted is the sorted one -/
theorem srt_eq {d : Nat} {rs ys : List (List Int)} (hb : RowsB d rs) (hp : ys.Perm rs) (hs : ys.Pairwise fun a b => TS.code 128 a ≤ TS.code 128 b) : ys = srt rs := by
  refine List.Perm.eq_of_pairwise (le := fun a b => TS.code 128 a ≤ TS.code 128 b) (fun a b ha hb' h1 h2 => ?_) hs (srt_sorted rs) (hp.trans (List.mergeSort_perm rs leR).symm)
  have ra := hb a (hp.mem_iff.mp ha)
  have rb := hb b (srt_mem.mp hb')
  exact code_inj (by rw [ra.1, rb.1]) ra.2 rb.2 (Int.le_antisymm h1 h2)
theorem _root_.Rt.ne_sy {α : Type} {a b : α} (h : ¬ a = b) : ¬ b = a := fun z => h z.symm
theorem eqvAll_ints : ∀ ns ms : List Int, PyData.eqvAll (ns.map PyData.int) (ms.map PyData.int) = decide (ns = ms)
  | [], [] => by simp [PyData.eqvAll]
  | [], _ :: _ => by simp [PyData.eqvAll]
  | _ :: _, [] => by simp [PyData.eqvAll]
  | a :: r, b :: t => by
    simp only [List.map_cons, PyData.eqvAll, PyData.eqv, eqvAll_ints r t]
    by_cases h : a = b <;> by_cases h2 : r = t <;> simp [h, h2]
theorem eqv_tup (ns ms : List Int) : PyData.eqv (.tuple (ns.map PyData.int)) (.tuple (ms.map PyData.int)) = decide (ns = ms) := by
  rw [PyData.eqv]
  exact eqvAll_ints ns ms
theorem shaped_tup (r : List Int) : SeqAt.shaped (.tuple (r.map PyData.int)) = true := PySem.W.ke_shaped_ints r
theorem dp_ints {K : PySem.W.Frag} {H : Hp} : ∀ r : List Int, DpAll K H (r.map V.int) (r.map PyData.int)
  | [] => .nil
  | _ :: r => .cons (.int _) (dp_ints r)
theorem dp_tupI {K : PySem.W.Frag} {H : Hp} {a : Addr} {r : List Int} (h : SqT K H a (r.map V.int)) : Dp K H (.ref a) (.tuple (r.map PyData.int)) := .tup h (dp_ints r)
theorem sIx_neg1 (n : Nat) : HT.sIx n n (some (-1)) = n - 1 := by
  show ((-1 : Int) + (n : Int)).toNat = n - 1
  omega
theorem cut_last (r : List Int) : cutV (r.map V.int) none (some (-1)) = r.dropLast.map V.int := by
  unfold cutV
  rw [sIx_neg1, List.length_map]
  show (List.drop 0 (r.map V.int)).take (r.length - 1 - 0) = _
  rw [List.drop_zero, Nat.sub_zero, ← List.map_take, List.dropLast_eq_take]
def intV : V → Int
  | .int i => i
  | _ => 0
def adr : V → Addr
  | .ref q => q
  | _ => 0
def rowOf (G : Hp) (v : V) : List Int := match G (adr v) with
  | some (.tup vs) => vs.map intV
  | _ => []
theorem rowOf_eq {G : Hp} {q : Addr} {ns : List Int} (h : G q = some (.tup (ns.map V.int))) : rowOf G (.ref q) = ns := by
  show (match G q with | some (.tup vs) => vs.map intV | _ => []) = ns
  rw [h]
  dsimp only
  rw [List.map_map]
  exact (List.map_congr_left fun _ _ => rfl).trans (List.map_id ns)
theorem rws_map {G : Hp} : ∀ {qs : List Addr} {rs : List (List Int)}, Rws G qs rs → (qs.map V.ref).map (rowOf G) = rs
  | _, _, .nil => rfl
  | _, _, .cons h t => by
    rw [List.map_cons, List.map_cons, rowOf_eq h, rws_map t]
theorem rws_mem {G : Hp} : ∀ {qs : List Addr} {rs : List (List Int)}, Rws G qs rs → ∀ v ∈ qs.map V.ref, ∃ (q : Addr) (ns : List Int), v = V.ref q ∧ G q = some (.tup (ns.map V.int)) ∧ ns ∈ rs
  | _, _, .nil, v, h => nomatch h
  | _, _, .cons h t, v, hv => by
    rcases List.mem_cons.mp hv with e | hv
    · exact ⟨_, _, e, h, .head _⟩
    · obtain ⟨q, ns, e, h1, h2⟩ := rws_mem t v hv
      exact ⟨q, ns, e, h1, .tail _ h2⟩
theorem rws_of {G : Hp} : ∀ ys : List V, (∀ v ∈ ys, ∃ (q : Addr) (ns : List Int), v = V.ref q ∧ G q = some (.tup (ns.map V.int))) → ys = (ys.map adr).map V.ref ∧ Rws G (ys.map adr) (ys.map (rowOf G))
  | [], _ => ⟨rfl, .nil⟩
  | v :: ys, h => by
    obtain ⟨h1, h2⟩ := rws_of ys fun u hu => h u (.tail _ hu)
    obtain ⟨q, ns, rfl, hq⟩ := h v (.head _)
    refine ⟨by rw [List.map_cons, List.map_cons, ← h1]; rfl, ?_⟩
    rw [List.map_cons, List.map_cons, rowOf_eq hq]
    exact .cons hq h2
/-- sorted references are those of the sorted rows -/
theorem sorted_rows {K : PySem.W.Frag} {G H : Hp} {d : Nat} {qs : List Addr} {rs : List (List Int)} {ys : List V} (h : Rws G qs rs) (hb : RowsB d rs) (e : Ex G H) (hp : ys.Perm (qs.map V.ref)) (hs : ys.Pairwise fun x y => ∀ n m, TupI K H x n → TupI K H y m → TS.code 128 n ≤ TS.code 128 m) :
    ∃ ks, ys = ks.map V.ref ∧ Rws G ks (srt rs) := by
  have mem : ∀ v ∈ ys, ∃ (q : Addr) (ns : List Int), v = V.ref q ∧ G q = some (.tup (ns.map V.int)) := fun v hv => by
    obtain ⟨q, ns, h1, h2, _⟩ := rws_mem h v (hp.mem_iff.mp hv)
    exact ⟨q, ns, h1, h2⟩
  obtain ⟨h1, h2⟩ := rws_of ys mem
  refine ⟨ys.map adr, h1, ?_⟩
  have pm : (ys.map (rowOf G)).Perm rs := by
    have := hp.map (rowOf G)
    rwa [rws_map h] at this
  have ps : (ys.map (rowOf G)).Pairwise fun a b => TS.code 128 a ≤ TS.code 128 b := by
    rw [List.pairwise_map]
    refine hs.imp_of_mem fun {a b} ha hb' z => ?_
    obtain ⟨q, ns, rfl, hq⟩ := mem a ha
    obtain ⟨q2, ns2, rfl, hq2⟩ := mem b hb'
    rw [rowOf_eq hq, rowOf_eq hq2]
    exact z _ _ ⟨q, rfl, SqT.of (e _ _ hq)⟩ ⟨q2, rfl, SqT.of (e _ _ hq2)⟩
  rw [← srt_eq hb pm ps]
  exact h2
/-- a thing in memory: an event's tuple without its tick -/
def Evt.th (e : Evt) : List V := e.v.drop 1
theorem last_row {e : Evt} (h : 1 ≤ e.row.length) : ∃ j : Nat, e.th[j]? = some (.int (e.row.getLastD 0)) ∧ j + 1 = e.th.length := by
  cases e with
  | key b t c k f => exact ⟨3, rfl, rfl⟩
  | knob t c k v => exact ⟨3, rfl, rfl⟩
  | voice t c v => exact ⟨2, rfl, rfl⟩
  | mark t x => exact absurd h (by show ¬ 1 ≤ 0; decide)
theorem th_row {e : Evt} (h : 1 ≤ e.row.length) : cutV e.th (some 1) none = e.row.map V.int := by
  cases e with
  | key b t c k f => rfl
  | knob t c k v => rfl
  | voice t c v => rfl
  | mark t x => exact absurd h (by show ¬ 1 ≤ 0; decide)
/-! ### a stand in memory -/
abbrev fS : Str := "_sounds"
abbrev fK : Str := "_knobs"
abbrev fV : Str := "_voices"
theorem nSK : ¬ (fS = fK) := by decide +kernel
theorem nSV : ¬ (fS = fV) := by decide +kernel
theorem nKV : ¬ (fK = fV) := by decide +kernel
def flds (x y z : V) : List (Str × V) := [(fS, x), (fK, y), (fV, z)]
theorem flds1 (x : V) : putF fS x [] = [(fS, x)] := rfl
theorem flds2 (x y : V) : putF fK y [(fS, x)] = [(fS, x), (fK, y)] := by
  show (if fS = fK then _ else (fS, x) :: putF fK y []) = _
  rw [if_neg nSK]
  rfl
theorem flds3 (x y z : V) : putF fV z [(fS, x), (fK, y)] = flds x y z := by
  show (if fS = fV then _ else (fS, x) :: (if fK = fV then _ else (fK, y) :: putF fV z [])) = _
  rw [if_neg nSV, if_neg nKV]
  rfl
theorem put_s (x y z u : V) : putF fS u (flds x y z) = flds u y z := by
  show (if fS = fS then (fS, u) :: _ else _) = _
  rw [if_pos rfl]
  rfl
theorem put_k (x y z u : V) : putF fK u (flds x y z) = flds x u z := by
  show (if fS = fK then _ else (fS, x) :: (if fK = fK then (fK, u) :: _ else _)) = _
  rw [if_neg nSK, if_pos rfl]
  rfl
theorem put_v (x y z u : V) : putF fV u (flds x y z) = flds x y u := by
  show (if fS = fV then _ else (fS, x) :: (if fK = fV then _ else (fK, y) :: (if fV = fV then (fV, u) :: _ else _))) = _
  rw [if_neg nSV, if_neg nKV, if_pos rfl]
  rfl
theorem flds_chain (x y z : V) : flds x y z = putF fV z (putF fK y (putF fS x [])) := by rw [flds1, flds2, flds3]
theorem look_s (x y z : V) : (flds x y z).lookup fS = some x := by
  rw [flds_chain, lookup_putF, if_neg nSV, lookup_putF, if_neg nSK, lookup_putF, if_pos rfl]
theorem look_k (x y z : V) : (flds x y z).lookup fK = some y := by
  rw [flds_chain, lookup_putF, if_neg nKV, lookup_putF, if_pos rfl]
theorem look_v (x y z : V) : (flds x y z).lookup fV = some z := by
  rw [flds_chain, lookup_putF, if_pos rfl]
theorem look_no (x y z : V) {m : Str} (h1 : ¬ m = fS) (h2 : ¬ m = fK) (h3 : ¬ m = fV) : (flds x y z).lookup m = none := by
  rw [flds_chain, lookup_putF, if_neg h3, lookup_putF, if_neg h2, lookup_putF, if_neg h1]
  rfl
/-- a Stand stands at a, settled -/
def StaAt (C : Addr) (G : Hp) (a : Addr) (s : Sta) : Prop := ∃ (dx l1 l2 l3 : Addr) (q1 q2 q3 : List Addr), G a = some (.ins C dx (flds (.ref l1) (.ref l2) (.ref l3))) ∧ G l1 = some (.lst (q1.map V.ref)) ∧ G l2 = some (.lst (q2.map V.ref)) ∧ G l3 = some (.lst (q3.map V.ref)) ∧
  Rws G q1 s.snd ∧ Rws G q2 s.knb ∧ Rws G q3 s.voi
theorem StaAt.up {C : Addr} {G G' : Hp} {a : Addr} {s : Sta} (h : StaAt C G a s) (x : Ex G G') : StaAt C G' a s := by
  obtain ⟨dx, l1, l2, l3, q1, q2, q3, h0, h1, h2, h3, r1, r2, r3⟩ := h
  exact ⟨dx, l1, l2, l3, q1, q2, q3, x _ _ h0, x _ _ h1, x _ _ h2, x _ _ h3, r1.up x, r2.up x, r3.up x⟩
/-- what the text's class Stand is -/
structure StandT (K : PySem.W.Frag) (C : Addr) : Prop where
  cl : Cls K C
  ns : NoAttr K C "_sounds"
  nk : NoAttr K C "_knobs"
  nv : NoAttr K C "_voices"
/-! ### the promises -/
def spSnd : Sp := fun vs H Q _ => ∃ (l t : Addr) (qs : List Addr) (S : List (List Int)) (e : Evt) (H0 : Hp), vs = [.ref l, .ref t] ∧ Ex H0 H ∧ H0 l = some (.lst (qs.map V.ref)) ∧ Rws H0 qs S ∧ RowsB 3 S ∧ H0 t = some (.tup e.th) ∧ S.length ≤ 1000 ∧
  ∀ (p : Addr) (qs' : List Addr) (G H' : Hp), Go (fun _ => False) H0 H G H' → G p = some (.lst (qs'.map V.ref)) → Rws G qs' (sndA S e) → Q (.ref p) H'
def spSet (d : Nat) (ok : Evt → Prop) : Sp := fun vs H Q _ => ∃ (l t : Addr) (qs : List Addr) (S : List (List Int)) (e : Evt) (H0 : Hp), vs = [.ref l, .ref t] ∧ Ex H0 H ∧ H0 l = some (.lst (qs.map V.ref)) ∧ Rws H0 qs S ∧ RowsB d S ∧ H0 t = some (.tup e.th) ∧ ok e ∧ e.Ok ∧ e.row.length = d ∧ S.length ≤ 62 ∧
  ∀ (p : Addr) (qs' : List Addr) (G H' : Hp), Go (fun _ => False) H0 H G H' → G p = some (.lst (qs'.map V.ref)) → Rws G qs' (setA S e.row) → Q (.ref p) H'
def spAfter (C : Addr) : Sp := fun vs H Q _ => ∃ (a t : Addr) (s : Sta) (n : Nat) (e : Evt) (H0 : Hp), vs = [.ref a, .ref t] ∧ Ex H0 H ∧ StaAt C H0 a s ∧ s.Ok n ∧ n ≤ 62 ∧ H0 t = some (.tup e.th) ∧ e.Ok ∧
  ∀ (b : Addr) (G H' : Hp), Go (fun _ => False) H0 H G H' → H b = none → StaAt C G b (s.after e) → Q (.ref b) H'
def spTold (C : Addr) (f : Sta → List (List Int)) : Sp := fun vs H Q _ => ∃ (a : Addr) (s : Sta) (H0 : Hp), vs = [.ref a] ∧ Ex H0 H ∧ StaAt C H0 a s ∧
  ∀ (p : Addr) (qs : List Addr) (H' : Hp), Go (fun _ => False) H0 H H0 H' → H p = none → H' p = some (.lst (qs.map V.ref)) → Rws H0 qs (f s) → Q (.ref p) H'
def spSLen (C : Addr) : Sp := fun vs H Q _ => ∃ (a : Addr) (s : Sta) (H0 : Hp), vs = [.ref a] ∧ Ex H0 H ∧ StaAt C H0 a s ∧ Q (.int ((s.snd.length : Nat) : Int)) H
def spNew (C : Addr) : Sp := fun vs H Q _ => ∃ (x dx : Addr) (H0 : Hp), vs = [.ref x] ∧ Ex H0 H ∧ H x = some (.ins C dx []) ∧ H0 x = none ∧
  ∀ (l1 l2 l3 : Addr) (H' : Hp), Go (· = x) H0 H H0 H' → H' x = some (.ins C dx (flds (.ref l1) (.ref l2) (.ref l3))) → H' l1 = some (.lst []) → H' l2 = some (.lst []) → H' l3 = some (.lst []) → H l1 = none → H l2 = none → H l3 = none → l1 ≠ l2 → l1 ≠ l3 → l2 ≠ l3 → Q .non H'
/-- the stand behind some events, and at a tick -/
def behind (es : List Evt) : Sta := es.foldl Sta.after Sta.nil
def upTo (es : List Evt) (tk : Int) : List Evt := es.filter fun e => decide (e.tick ≤ tk)
def staAt (es : List Evt) (tk : Int) : Sta := behind (upTo es tk)
theorem behind_snoc (es : List Evt) (e : Evt) : behind (es ++ [e]) = (behind es).after e := by
  unfold behind
  rw [List.foldl_append]
  rfl
theorem behind_ok : ∀ (es : List Evt), (∀ e ∈ es, e.Ok) → (behind es).Ok es.length := by
  intro es
  have key : ∀ (es : List Evt) (s : Sta) (n : Nat), s.Ok n → (∀ e ∈ es, e.Ok) → (es.foldl Sta.after s).Ok (n + es.length) := by
    intro es
    induction es with
    | nil => intro s n h _; exact h
    | cons x xs ih =>
      intro s n h hx
      have := ih (s.after x) (n + 1) (h.after (hx x (.head _))) fun e he => hx e (.tail _ he)
      rw [List.length_cons, show n + (xs.length + 1) = n + 1 + xs.length by omega]
      exact this
  intro h
  have := key es Sta.nil 0 Sta.Ok.nil h
  rwa [Nat.zero_add] at this
theorem upTo_snoc {es : List Evt} {j : Nat} {e : Evt} {tk : Int} (h : es[j]? = some e) : upTo (es.take (j + 1)) tk = if e.tick ≤ tk then upTo (es.take j) tk ++ [e] else upTo (es.take j) tk := by
  rw [take_snoc h]
  unfold upTo
  rw [List.filter_append]
  by_cases c : e.tick ≤ tk
  · rw [if_pos c, List.filter_cons_of_pos (p := fun e : Evt => decide (e.tick ≤ tk)) (a := e) (decide_eq_true c)]
    rfl
  · rw [if_neg c, List.filter_cons_of_neg (p := fun e : Evt => decide (e.tick ≤ tk)) (a := e) (by rw [decide_eq_false c]; exact Bool.false_ne_true)]
    exact List.append_nil _
theorem Sta.Ok.mono {s : Sta} {n m : Nat} (h : s.Ok n) (hm : n ≤ m) : s.Ok m := ⟨h.b1, h.b2, h.b3, Nat.le_trans h.l1 hm, Nat.le_trans h.l2 hm, Nat.le_trans h.l3 hm⟩
def spTick : Sp := fun vs H Q _ => ∃ t : Int, vs = [.int t] ∧ 0 ≤ t ∧ t ≤ 999999 ∧ Q .non H
def spStandAt (C : Addr) : Sp := fun vs H Q _ => ∃ (r : Addr) (tk : Int) (ps : List Addr) (es : List Evt) (H0 : Hp), vs = [.ref r, .int tk] ∧ Ex H0 H ∧ H0 r = some (.lst (ps.map V.ref)) ∧ Evs H0 ps (es.map Evt.v) ∧ es.length ≤ 62 ∧ (∀ e ∈ es, e.Ok) ∧ 0 ≤ tk ∧ tk ≤ 999999 ∧
  ∀ (a : Addr) (G H' : Hp), Go (fun _ => False) H0 H G H' → H a = none → StaAt C G a (staAt es tk) → Q (.ref a) H'
theorem cut_th (e : Evt) : cutV e.v (some 1) none = e.th := by cases e <;> rfl
theorem v_tick (e : Evt) : e.v[0]? = some (.int e.tick) := by cases e <;> rfl
theorem v_len (e : Evt) : 1 < e.v.length := by cases e <;> simp [Evt.v]
/-- a new stand is settled -/
theorem settle_new {C x dx m1 m2 m3 : Addr} {H0 B H1 : Hp} (g : Go (fun _ => False) H0 B H0 H1) (hx : H1 x = some (.ins C dx (flds (.ref m1) (.ref m2) (.ref m3)))) (h1 : H1 m1 = some (.lst [])) (h2 : H1 m2 = some (.lst [])) (h3 : H1 m3 = some (.lst []))
    (fx : B x = none) (f1 : B m1 = none) (f2 : B m2 = none) (f3 : B m3 = none) (zx : H0 x = none) (z1 : H0 m1 = none) (z2 : H0 m2 = none) (z3 : H0 m3 = none) (x1 : x ≠ m1) (x2 : x ≠ m2) (x3 : x ≠ m3) (d12 : m1 ≠ m2) (d13 : m1 ≠ m3) (d23 : m2 ≠ m3) :
    ∃ G, Go (fun _ => False) H0 B G H1 ∧ Ex H0 G ∧ StaAt C G x Sta.nil := by
  have g1 := g.set f1 h1 z1
  have g2 := g1.set f2 h2 (by rw [upd_ne d12.symm]; exact z2)
  have g3 := g2.set f3 h3 (by rw [upd_ne d23.symm, upd_ne d13.symm]; exact z3)
  have zx3 : upd (upd (upd H0 m1 (.lst [])) m2 (.lst [])) m3 (.lst []) x = none := by rw [upd_ne x3, upd_ne x2, upd_ne x1]; exact zx
  have g4 := g3.set fx hx zx3
  refine ⟨_, g4, g4.up, dx, m1, m2, m3, [], [], [], upd_same, ?_, ?_, ?_, .nil, .nil, .nil⟩
  · rw [upd_ne x1.symm, upd_ne d13, upd_ne d12, upd_same]; rfl
  · rw [upd_ne x2.symm, upd_ne d23, upd_same]; rfl
  · rw [upd_ne x3.symm, upd_same]; rfl
end Rt

namespace Rt
open PySem PySem.Spec PyProof.Rows L2 RZ TL LamX
/-! ### what sounds is what is open -/
def rowE (es : List Evt) (b : Nat) : List Int := match es[b]? with
  | some e => e.row
  | none => []
def CkSorted (S : List (List Int)) : Prop := S.Pairwise fun a b => leCK (rck a) (rck b) = true
def SndInv (es : List Evt) (rows : List Row) (S : List (List Int)) : Prop := CkSorted S ∧ ∀ ck, S.filter (fun r => decide (rck r = ck)) = (openAt es rows ck).map (rowE es)
theorem leCK_refl (a : Int × Int) : leCK a a = true := decide_eq_true (.inr ⟨rfl, Int.le_refl _⟩)
theorem leCK_trans {a b c : Int × Int} (h1 : leCK a b = true) (h2 : leCK b c = true) : leCK a c = true := by
  have h1 := of_decide_eq_true h1
  have h2 := of_decide_eq_true h2
  exact decide_eq_true (by omega)
theorem leCK_anti {a b : Int × Int} (h1 : leCK a b = true) (h2 : leCK b a = true) : a = b := by
  have h1 := of_decide_eq_true h1
  have h2 := of_decide_eq_true h2
  obtain ⟨x, y⟩ := a
  obtain ⟨z, w⟩ := b
  dsimp only at h1 h2
  have e1 : x = z := by omega
  have e2 : y = w := by omega
  rw [e1, e2]
theorem leCK_total {a b : Int × Int} (h : ¬ leCK a b = true) : leCK b a = true := by
  have h : ¬ (a.1 < b.1 ∨ a.1 = b.1 ∧ a.2 ≤ b.2) := fun z => h (decide_eq_true z)
  exact decide_eq_true (by omega)
/-- in a sorted list those up to a key come first -/
theorem split_at {ck : Int × Int} : ∀ {S : List (List Int)}, CkSorted S → (∀ x ∈ S.take (S.filter fun x => leCK (rck x) ck).length, leCK (rck x) ck = true) ∧ ∀ x ∈ S.drop (S.filter fun x => leCK (rck x) ck).length, leCK (rck x) ck = false
  | [], _ => ⟨(fun x h => nomatch h), (fun x h => nomatch h)⟩
  | y :: S, h => by
    have h1 := List.pairwise_cons.mp h
    by_cases c : leCK (rck y) ck = true
    · rw [List.filter_cons_of_pos (p := fun x => leCK (rck x) ck) c, List.length_cons]
      obtain ⟨i1, i2⟩ := split_at (ck := ck) (S := S) h1.2
      refine ⟨fun x hx => ?_, fun x hx => i2 x hx⟩
      rcases List.mem_cons.mp hx with e | hx
      · rw [e]; exact c
      · exact i1 x hx
    · have no : ∀ x ∈ S, ¬ leCK (rck x) ck = true := fun x hx z => c (leCK_trans (h1.1 x hx) z)
      rw [List.filter_cons_of_neg (p := fun x => leCK (rck x) ck) c, List.filter_eq_nil_iff.mpr no]
      refine ⟨fun x hx => (nomatch hx), fun x hx => ?_⟩
      rcases List.mem_cons.mp hx with e | hx
      · rw [e]; exact Bool.eq_false_iff.mpr c
      · exact Bool.eq_false_iff.mpr (no x hx)
theorem ins_sorted {S : List (List Int)} {r : List Int} (h : CkSorted S) : CkSorted (insN S r) := by
  obtain ⟨h1, h2⟩ := split_at (ck := rck r) h
  unfold insN
  dsimp only
  revert h1 h2
  generalize (S.filter fun x => leCK (rck x) (rck r)).length = n
  intro h1 h2
  have hs := h
  rw [← List.take_append_drop n S] at hs
  unfold CkSorted at hs ⊢
  rw [List.pairwise_append] at hs
  rw [List.append_assoc, List.pairwise_append]
  refine ⟨hs.1, List.pairwise_cons.mpr ⟨fun b hb => ?_, hs.2.1⟩, fun a ha b hb => ?_⟩
  · exact leCK_total (by rw [h2 b hb]; exact Bool.false_ne_true)
  · rcases List.mem_cons.mp hb with e | hb
    · rw [e]; exact h1 a ha
    · exact hs.2.2 a ha b hb
theorem ins_filter {S : List (List Int)} {r : List Int} (h : CkSorted S) (ck : Int × Int) : (insN S r).filter (fun x => decide (rck x = ck)) = if rck r = ck then S.filter (fun x => decide (rck x = ck)) ++ [r] else S.filter (fun x => decide (rck x = ck)) := by
  obtain ⟨h1, h2⟩ := split_at (ck := rck r) h
  unfold insN
  dsimp only
  revert h1 h2
  generalize (S.filter fun x => leCK (rck x) (rck r)).length = n
  intro h1 h2
  rw [List.filter_append, List.filter_append]
  have hS : S.filter (fun x => decide (rck x = ck)) = (S.take n).filter (fun x => decide (rck x = ck)) ++ (S.drop n).filter (fun x => decide (rck x = ck)) := by
    rw [← List.filter_append, List.take_append_drop]
  by_cases e : rck r = ck
  · rw [if_pos e, hS]
    have no : (S.drop n).filter (fun x => decide (rck x = ck)) = [] := List.filter_eq_nil_iff.mpr fun x hx z => by
      have z := of_decide_eq_true z
      have := h2 x hx
      rw [z, ← e, leCK_refl] at this
      cases this
    rw [no, List.append_nil, List.append_nil, List.filter_cons_of_pos (p := fun x : List Int => decide (rck x = ck)) (a := r) (decide_eq_true e)]
    rfl
  · rw [if_neg e, hS, List.filter_cons_of_neg (p := fun x : List Int => decide (rck x = ck)) (a := r) (by rw [decide_eq_false e]; exact Bool.false_ne_true), List.filter_nil, List.append_nil]
theorem del_sub (p : List Int → Bool) : ∀ S : List (List Int), (delF p S).Sublist S
  | [] => .slnil
  | x :: xs => by
    unfold delF
    split
    · exact .cons _ (List.Sublist.refl _)
    · exact (del_sub p xs).cons₂ _
theorem del_filter {c ck : Int × Int} : ∀ S : List (List Int), (delF (fun x => decide (rck x = c)) S).filter (fun x => decide (rck x = ck)) = if ck = c then (S.filter (fun x => decide (rck x = ck))).tail else S.filter (fun x => decide (rck x = ck))
  | [] => by split <;> rfl
  | x :: xs => by
    have ih := del_filter (c := c) (ck := ck) xs
    unfold delF
    by_cases h : rck x = c
    · rw [if_pos (decide_eq_true h)]
      by_cases e : ck = c
      · rw [if_pos e, List.filter_cons_of_pos (p := fun x : List Int => decide (rck x = ck)) (a := x) (decide_eq_true (h.trans e.symm))]
        rfl
      · rw [if_neg e, List.filter_cons_of_neg (p := fun x : List Int => decide (rck x = ck)) (a := x) (by rw [decide_eq_false (fun z => e (z.symm.trans h))]; exact Bool.false_ne_true)]
    · rw [if_neg (by rw [decide_eq_false h]; exact Bool.false_ne_true)]
      by_cases e : rck x = ck
      · have ne : ¬ ck = c := fun z => h (e.trans z)
        rw [if_neg ne] at ih ⊢
        rw [List.filter_cons_of_pos (p := fun x : List Int => decide (rck x = ck)) (a := x) (decide_eq_true e), List.filter_cons_of_pos (p := fun x : List Int => decide (rck x = ck)) (a := x) (decide_eq_true e), ih]
      · rw [List.filter_cons_of_neg (p := fun x : List Int => decide (rck x = ck)) (a := x) (by rw [decide_eq_false e]; exact Bool.false_ne_true), List.filter_cons_of_neg (p := fun x : List Int => decide (rck x = ck)) (a := x) (by rw [decide_eq_false e]; exact Bool.false_ne_true), ih]
theorem rowE_at {es : List Evt} {i : Nat} {e : Evt} (h : es[i]? = some e) : rowE es i = e.row := by
  unfold rowE
  rw [h]
/-- behind each event what sounds is what is open -/
theorem snd_inv (es : List Evt) : ∀ i, i ≤ es.length → SndInv es (walkN es i).rows (behind (es.take i)).snd
  | 0, _ => ⟨List.Pairwise.nil, fun ck => rfl⟩
  | i + 1, hi => by
    obtain ⟨h1, h2⟩ := snd_inv es i (by omega)
    have he : es[i]? = some es[i] := List.getElem?_eq_getElem (by omega)
    generalize es[i] = e at he
    rw [take_snoc he, behind_snoc]
    show SndInv es (stepN es i (walkN es i)).rows (sndA (behind (es.take i)).snd e)
    cases e with
    | key b t c k f =>
      cases b with
      | true =>
        rw [step_on he]
        refine ⟨ins_sorted h1, fun ck => ?_⟩
        show (insN _ _).filter _ = _
        rw [ins_filter h1, open_snoc, ck_at he, h2 ck]
        by_cases e2 : (c, k) = ck
        · rw [if_pos (show rck [c, k, f] = ck from e2), if_pos (by rw [e2]), List.map_append]
          show _ ++ [[c, k, f]] = _ ++ [rowE es i]
          rw [rowE_at he]
          rfl
        · rw [if_neg (show ¬ rck [c, k, f] = ck from e2), if_neg (fun z => e2 (Option.some.inj z))]
      | false =>
        have srt' : CkSorted (delF (fun x => decide (rck x = (c, k))) (behind (es.take i)).snd) := h1.sublist (del_sub _ _)
        cases ho : openAt es (walkN es i).rows (c, k) with
        | nil =>
          rw [step_off0 he ho]
          refine ⟨srt', fun ck => ?_⟩
          show (delF _ _).filter _ = _
          rw [del_filter]
          by_cases e2 : ck = (c, k)
          · rw [if_pos e2, e2, h2, ho]
            rfl
          · rw [if_neg e2, h2]
        | cons b r =>
          rw [step_off1 he ho]
          refine ⟨srt', fun ck => ?_⟩
          show (delF _ _).filter _ = _
          rw [del_filter, open_end (asc_nd (walkN_asc es i)) ho]
          by_cases e2 : ck = (c, k)
          · rw [if_pos e2, if_pos e2, e2, h2, ho]
            rfl
          · rw [if_neg e2, if_neg e2, h2]
    | knob t c k v => rw [step_no he rfl]; exact ⟨h1, h2⟩
    | voice t c v => rw [step_no he rfl]; exact ⟨h1, h2⟩
    | mark t s => rw [step_no he rfl]; exact ⟨h1, h2⟩
/-! ### open in the middle, seen from the end -/
def activeAt (m : Nat) (r : Row) : Bool := decide (r.1 < m) && (match r.2 with | none => true | some e => decide (m ≤ e))
theorem ends_lt (es : List Evt) : ∀ i, ∀ r ∈ (walkN es i).rows, ∀ e, r.2 = some e → e < i
  | 0, r, h, _, _ => nomatch h
  | i + 1, r, h, e, he => by
    have ih := ends_lt es i
    have h : r ∈ (stepN es i (walkN es i)).rows := h
    unfold stepN at h
    split at h
    · rcases List.mem_append.mp h with h | h
      · exact Nat.lt_succ_of_lt (ih r h e he)
      · rw [List.mem_singleton.mp h] at he
        cases he
    · split at h
      · exact Nat.lt_succ_of_lt (ih r h e he)
      · obtain ⟨r', hr', rfl⟩ := List.mem_map.mp h
        split at he
        · cases he
          exact Nat.lt_succ_self _
        · exact Nat.lt_succ_of_lt (ih r' hr' e he)
    · exact Nat.lt_succ_of_lt (ih r h e he)
theorem active_now {es : List Evt} {m : Nat} : ((walkN es m).rows.filter (activeAt m)).map (·.1) = ((walkN es m).rows.filter fun r => decide (r.2 = none)).map (·.1) := by
  congr 1
  refine List.filter_congr fun r hr => ?_
  have h1 := (walkN_asc es m).2 r hr
  unfold activeAt
  rw [decide_eq_true h1, Bool.true_and]
  cases e : r.2 with
  | none => rfl
  | some e' =>
    have := ends_lt es m r hr e' e
    show decide (m ≤ e') = decide (some e' = none)
    rw [decide_eq_false (by omega), decide_eq_false (fun z => nomatch z)]
theorem active_set {rows : List Row} {m b n : Nat} (hn : m ≤ n) (h : ∀ r ∈ rows, r.1 = b → r.2 = none) : ((setEnd rows b n).filter (activeAt m)).map (·.1) = (rows.filter (activeAt m)).map (·.1) := by
  induction rows with
  | nil => rfl
  | cons r rs ih =>
    have ih := ih fun x hx => h x (.tail _ hx)
    have key : activeAt m (if r.1 = b then (r.1, some n) else r) = activeAt m r := by
      by_cases e : r.1 = b
      · rw [if_pos e]
        have e2 := h r (.head _) e
        unfold activeAt
        rw [e2]
        show (decide (r.1 < m) && decide (m ≤ n)) = (decide (r.1 < m) && true)
        rw [decide_eq_true hn]
      · rw [if_neg e]
    have fst : (if r.1 = b then ((r.1, some n) : Row) else r).1 = r.1 := by split <;> rfl
    show (((if r.1 = b then ((r.1, some n) : Row) else r) :: setEnd rs b n).filter (activeAt m)).map (·.1) = _
    by_cases p : activeAt m r = true
    · rw [List.filter_cons_of_pos p, List.filter_cons_of_pos (by rw [key]; exact p), List.map_cons, List.map_cons, fst, ih]
    · rw [List.filter_cons_of_neg p, List.filter_cons_of_neg (by rw [key]; exact p), ih]
theorem active_later (es : List Evt) (m : Nat) : ∀ d, ((walkN es (m + d)).rows.filter (activeAt m)).map (·.1) = ((walkN es m).rows.filter (activeAt m)).map (·.1)
  | 0 => rfl
  | d + 1 => by
    have ih := active_later es m d
    show ((stepN es (m + d) (walkN es (m + d))).rows.filter (activeAt m)).map (·.1) = _
    rw [← ih]
    unfold stepN
    split
    · dsimp only
      rw [List.filter_append, List.filter_cons_of_neg (by unfold activeAt; rw [decide_eq_false (show ¬ m + d < m by omega), Bool.false_and]; exact Bool.false_ne_true), List.filter_nil, List.append_nil]
    · split
      · rfl
      · rename_i b _ ho
        dsimp only
        refine active_set (by omega) fun r hr e => ?_
        have hb := (mem_open (es := es) (rows := (walkN es (m + d)).rows) (b := b) (by rw [ho]; exact .head _)).1
        rw [row_eq (asc_nd (walkN_asc es (m + d))) hr hb e]
    · rfl
/-- the places active at m are those open at m -/
theorem active_open {es : List Evt} {m n : Nat} (h : m ≤ n) : ((walkN es n).rows.filter (activeAt m)).map (·.1) = ((walkN es m).rows.filter fun r => decide (r.2 = none)).map (·.1) := by
  obtain ⟨d, rfl⟩ : ∃ d, n = m + d := ⟨n - m, by omega⟩
  rw [active_later, active_now]
theorem open_filter (es : List Evt) (rows : List Row) (ck : Int × Int) : openAt es rows ck = ((rows.filter fun r => decide (r.2 = none)).map (·.1)).filter fun b => decide (ckAt es b = some ck) := by
  unfold openAt
  induction rows with
  | nil => rfl
  | cons r rs ih =>
    by_cases h1 : r.2 = none
    · rw [List.filter_cons_of_pos (p := fun r : Row => decide (r.2 = none)) (decide_eq_true h1), List.map_cons]
      by_cases h2 : ckAt es r.1 = some ck
      · rw [List.filter_cons_of_pos (by unfold isOpen; rw [decide_eq_true h1, decide_eq_true h2]; rfl), List.filter_cons_of_pos (p := fun b => decide (ckAt es b = some ck)) (decide_eq_true h2), List.map_cons, ih]
      · rw [List.filter_cons_of_neg (by unfold isOpen; rw [decide_eq_false h2, Bool.and_false]; exact Bool.false_ne_true), List.filter_cons_of_neg (p := fun b => decide (ckAt es b = some ck)) (by rw [decide_eq_false h2]; exact Bool.false_ne_true), ih]
    · rw [List.filter_cons_of_neg (p := fun r : Row => decide (r.2 = none)) (by rw [decide_eq_false h1]; exact Bool.false_ne_true), List.filter_cons_of_neg (by unfold isOpen; rw [decide_eq_false h1, Bool.false_and]; exact Bool.false_ne_true), ih]
/-- the rows due at m are those that sound -/
def dueN (es : List Evt) (m : Nat) : List (List Int) := (((walkN es es.length).rows.filter (activeAt m)).map (·.1)).map (rowE es)
theorem due_perm {es : List Evt} {m : Nat} (h : m ≤ es.length) : (behind (es.take m)).snd.Perm (dueN es m) := by
  have inv := (snd_inv es m h).2
  have key : ∀ ck, (behind (es.take m)).snd.filter (fun r => decide (rck r = ck)) = (dueN es m).filter (fun r => decide (rck r = ck)) := fun ck => by
    rw [inv ck, open_filter]
    unfold dueN
    rw [active_open h]
    conv => rhs; rw [List.filter_map]
    congr 1
    refine List.filter_congr fun b hb => ?_
    obtain ⟨r, hr, rfl⟩ := List.mem_map.mp hb
    obtain ⟨t, c, k, f, he⟩ := walkN_key es m r (List.mem_filter.mp hr).1
    show decide (ckAt es r.1 = some ck) = decide (rck (rowE es r.1) = ck)
    rw [ck_at he, rowE_at he]
    show decide (some (c, k) = some ck) = decide ((c, k) = ck)
    by_cases e : (c, k) = ck
    · rw [decide_eq_true e, decide_eq_true (by rw [e])]
    · rw [decide_eq_false e, decide_eq_false (fun z => e (Option.some.inj z))]
  refine List.perm_iff_count.mpr fun a => ?_
  have c1 : ∀ l : List (List Int), l.count a = (l.filter fun r => decide (rck r = rck a)).count a := fun l => by
    rw [List.count_filter]
    exact decide_eq_true rfl
  rw [c1, c1 (dueN es m), key]
theorem srt_perm {d : Nat} {a b : List (List Int)} (hb : RowsB d b) (h : a.Perm b) : srt a = srt b := srt_eq hb ((List.mergeSort_perm a leR).trans h) (srt_sorted a)
/-! ### the events up to a tick are the first ones -/
theorem rise_le2 {es : List Evt} (h : RiseE es) : ∀ (d i : Nat) (x y : Evt), es[i]? = some x → es[i + d]? = some y → x.tick ≤ y.tick
  | 0, i, x, y, h1, h2 => by
    have h2 : es[i]? = some y := h2
    rw [h1] at h2
    cases h2
    exact Int.le_refl _
  | d + 1, i, x, y, h1, h2 => by
    have l2 := (List.getElem?_eq_some_iff.mp h2).1
    have hm : es[i + d]? = some es[i + d] := List.getElem?_eq_getElem (by omega)
    have := h (i + d) _ y hm h2
    exact Int.le_trans (rise_le2 h d i x _ h1 hm) this
theorem upTo_take {es : List Evt} (h : RiseE es) (tk : Int) : ∃ m, m ≤ es.length ∧ upTo es tk = es.take m ∧ ∀ j e, es[j]? = some e → (e.tick ≤ tk ↔ j < m) := by
  induction es with
  | nil => exact ⟨0, Nat.le_refl _, rfl, fun j e he => by simp at he⟩
  | cons x xs ih =>
    by_cases c : x.tick ≤ tk
    · obtain ⟨m, h1, h2, h3⟩ := ih fun j a b ha hb => h (j + 1) a b ha hb
      refine ⟨m + 1, Nat.succ_le_succ h1, ?_, fun j e he => ?_⟩
      · show (x :: xs).filter _ = _
        rw [List.filter_cons_of_pos (p := fun e : Evt => decide (e.tick ≤ tk)) (a := x) (decide_eq_true c)]
        exact congrArg (x :: ·) h2
      · match j, he with
        | 0, he => cases he; exact ⟨fun _ => by omega, fun _ => c⟩
        | j + 1, he =>
          have := h3 j e he
          exact ⟨fun z => Nat.succ_lt_succ (this.mp z), fun z => this.mpr (Nat.lt_of_succ_lt_succ z)⟩
    · refine ⟨0, Nat.zero_le _, ?_, fun j e he => ⟨fun z => ?_, fun z => absurd z (Nat.not_lt_zero _)⟩⟩
      · refine List.filter_eq_nil_iff.mpr fun e he z => c ?_
        obtain ⟨j, hj⟩ := List.mem_iff_getElem?.mp he
        exact Int.le_trans (rise_le2 h j 0 x e rfl (by rw [Nat.zero_add]; exact hj)) (of_decide_eq_true z)
      · exact absurd (Int.le_trans (rise_le2 h j 0 x e rfl (by rw [Nat.zero_add]; exact he)) z) c
/-! ### rows as data -/
def rowsDD (rs : List (List Int)) : PyData := .list (rs.map fun r => .tuple (r.map PyData.int))
theorem dp_rws {K : PySem.W.Frag} {H : Hp} : ∀ {qs : List Addr} {rs : List (List Int)}, Rws H qs rs → DpAll K H (qs.map V.ref) (rs.map fun r => .tuple (r.map PyData.int))
  | _, _, .nil => .nil
  | _, _, .cons h t => .cons (dp_tupI (SqT.of h)) (dp_rws t)
theorem dp_rowsDD {K : PySem.W.Frag} {H : Hp} {a : Addr} {qs : List Addr} {rs : List (List Int)} (ha : H a = some (.lst (qs.map V.ref))) (h : Rws H qs rs) : Dp K H (.ref a) (rowsDD rs) := .lst (SqL.of ha) (dp_rws h)
theorem rowsDD_lay : ∀ rs : List (List Int), PyData.canLayAll0 (rs.map fun r => PyData.tuple (r.map PyData.int)) = true ∧ PyData.depthAll (rs.map fun r => PyData.tuple (r.map PyData.int)) ≤ 1
  | [] => ⟨rfl, Nat.zero_le _⟩
  | r :: rs => by
    obtain ⟨h1, h2⟩ := rowsDD_lay rs
    refine ⟨?_, ?_⟩
    · show ((PyData.tuple (r.map PyData.int)).canLay0 && _) = true
      rw [h1, Bool.and_true]
      exact PySem.W.ke_canLayAll0 r
    · show max (PyData.depthAll (r.map PyData.int) + 1) _ ≤ 1
      rw [PySem.W.ke_depthAll]
      omega
theorem rowsDD_shaped (rs : List (List Int)) : SeqAt.shaped (rowsDD rs) = true := by
  obtain ⟨h1, h2⟩ := rowsDD_lay rs
  show (PyData.canLayAll0 _ && decide (PyData.depthAll _ + 1 ≤ 64)) = true
  rw [h1, decide_eq_true (by omega)]
  rfl
theorem rowsDD_eq (rs : List (List Int)) : PyData.eqv (rowsDD rs) (rowsDD rs) = true := SeqAt.eqv_refl _ (SeqAt.canLay_of_shaped (rowsDD_shaped rs))
theorem dueN_b {es : List Evt} (hok : ∀ e ∈ es, e.Ok) (m : Nat) : RowsB 3 (dueN es m) := fun r hr => by
  unfold dueN at hr
  obtain ⟨b, hb, rfl⟩ := List.mem_map.mp hr
  obtain ⟨q, hq, rfl⟩ := List.mem_map.mp hb
  obtain ⟨t, c, k, f, he⟩ := walkN_key es _ q (List.mem_filter.mp hq).1
  rw [rowE_at he]
  exact ⟨rfl, (hok _ (List.mem_of_getElem? he)).row⟩
theorem due_snoc {es : List Evt} {m j : Nat} {rows : List Row} {r : Row} (h : rows[j]? = some r) : (((rows.take (j + 1)).filter (activeAt m)).map (·.1)).map (rowE es) = if activeAt m r = true then (((rows.take j).filter (activeAt m)).map (·.1)).map (rowE es) ++ [rowE es r.1] else (((rows.take j).filter (activeAt m)).map (·.1)).map (rowE es) := by
  rw [take_snoc h, List.filter_append]
  by_cases c : activeAt m r = true
  · rw [if_pos c, List.filter_cons_of_pos c, List.map_append, List.map_append]
    rfl
  · rw [if_neg c, List.filter_cons_of_neg c, List.filter_nil, List.append_nil]
end Rt

namespace Rt
open PySem PySem.Spec PyProof.Rows L2
/-! ### no two keys (channel, key) hash alike -/
def hashCK (c k : Nat) : Int := tupleHashN [(c : Int), (k : Int)]
where tupleHashN (l : List Int) : Int := reduceHash (Builtin.Tuple.tupleHashOf l)
def bases : List Nat := [7306349728055554319, 12418310136014612966, 10049765409666327412, 7996499203468434507, 5627954477120148953, 10739914885079207600, 8686648678881314695, 6318103952533029141, 4264837746335136236, 1896293019986850682, 7008253427945909329, 4639708701597623775, 2586442495399730870, 533176289201837965, 5329858177010503963, 3276591970812611058]
/-- which key has this hash -/
def unhash (h : Int) : Nat × Nat :=
  let m : Nat := 18446744073709551616
  let a := ((h - 2870177450013471924) % (m : Int)).toNat
  let a := a * 614540362697595703 % m
  let a := a / 2147483648 + a % 2147483648 * 8589934592
  let y := a * 839798700976720815 % m
  go y 0 bases
where go (y : Nat) (c : Nat) : List Nat → Nat × Nat
  | [] => (0, 0)
  | b :: r => if (y + 18446744073709551616 - b) % 18446744073709551616 < 128 then (c, (y + 18446744073709551616 - b) % 18446744073709551616) else go y (c + 1) r
set_option maxRecDepth 1000000 in
theorem unhash_ok : ∀ c, c < 16 → ∀ k, k < 128 → unhash (hashCK c k) = (c, k) := by decide +kernel
theorem hashCK_inj {c k c' k' : Nat} (hc : c < 16) (hk : k < 128) (hc' : c' < 16) (hk' : k' < 128) (h : hashCK c k = hashCK c' k') : c = c' ∧ k = k' := by
  have e := (unhash_ok c hc k hk).symm.trans ((congrArg unhash h).trans (unhash_ok c' hc' k' hk'))
  injection e with e1 e2
  exact ⟨e1, e2⟩
theorem key_hash {P : Program} {w : World} {c k : Nat} (hc : c < 16) (hk : k < 128) : (tupleKind (mixKind P w)).hash [Sum.inl (c : Int), Sum.inl (k : Int)] = hashCK c k := by
  have small : ∀ n : Nat, n < 128 → keyH w (Sum.inl (n : Int)) = (n : Int) := by
    have h : ∀ n : Nat, n < 128 → hashInt (n : Int) = (n : Int) := by decide +kernel
    exact h
  show reduceHash (Builtin.Tuple.tupleHashOf [keyH w (Sum.inl (c : Int)), keyH w (Sum.inl (k : Int))]) = _
  rw [small c (by omega), small k hk]
  rfl
def CKey (ks : List Key) : Prop := ∃ c k : Nat, c < 16 ∧ k < 128 ∧ ks = [Sum.inl (c : Int), Sum.inl (k : Int)]
theorem hash_nd {P : Program} {w : World} : ∀ {l : List (List Key)}, (∀ ks ∈ l, CKey ks) → l.Nodup → (l.map (tupleKind (mixKind P w)).hash).Nodup
  | [], _, _ => List.nodup_nil
  | x :: l, h, n => by
    rw [List.nodup_cons] at n
    rw [List.map_cons, List.nodup_cons]
    refine ⟨fun hm => ?_, hash_nd (fun ks hk => h ks (.tail _ hk)) n.2⟩
    obtain ⟨y, hy, e⟩ := List.mem_map.mp hm
    obtain ⟨c, k, hc, hk, rfl⟩ := h x (.head _)
    obtain ⟨c', k', hc', hk', rfl⟩ := h y (.tail _ hy)
    rw [key_hash hc hk, key_hash hc' hk'] at e
    obtain ⟨rfl, rfl⟩ := hashCK_inj hc' hk' hc hk e
    exact n.1 hy
/-! ### dict(d): a copy, where keys are tuples -/
def rCopyT : List V → Hp → VK → Prop := fun xs H Q => ∃ (a : Addr) (kvs : List (List Key × V)), xs = [.ref a] ∧ H a = some (.dT kvs) ∧ (∀ e ∈ kvs, CKey e.1) ∧ ∀ p, H p = none → Q (.ref p) (upd H p (.dT kvs))
theorem kt_keys {H : Hp} : ∀ {kvs : List (List Key × V)} {xs : List (List Key × Addr × Value)}, KT H kvs xs → xs.map (·.1) = kvs.map (·.1)
  | _, _, .nil => rfl
  | _, _, .cons h t => by
    rw [List.map_cons, List.map_cons, kt_keys t, h.1]
theorem cr_copyT {X : Cx} (hu : X.A.units + 64 < cLine) : CallR X (.type "dict") rCopyT := by
  intro pins s σ H xs us Q I r q
  obtain ⟨a, kvs, ex, ha, hck, q⟩ := q
  subst ex
  obtain ⟨u, eu, rx⟩ := vals1 r
  subst eu
  cases rx
  obtain ⟨z, lo, ys, rel, dd⟩ := dt_of I.hok ha
  have ky := kt_keys rel
  obtain ⟨ob0, es0, ep0, g0, g1, g2, g3, g4, nd0⟩ := id dd
  have hap : (ys.map fun x => (tupleKind (mixKind X.prog X.w)).hash x.1).Nodup := by
    have h := hash_nd (P := X.prog) (w := X.w) (l := ys.map (·.1)) (fun ks hks => by
      rw [ky] at hks
      obtain ⟨e, he, rfl⟩ := List.mem_map.mp hks
      exact hck e he) nd0
    rw [List.map_map] at h
    exact h
  have yz : ys.length ≤ sizeLine := (Paired.length rel) ▸ z
  have key : ∀ h', h'.DictOfH (tupleKind (mixKind X.prog X.w)) s.heap.objs.size ys → Heap.SameBut s.heap.objs.size (s.heap.push { cls := .type "dict", data := .dict #[] }) h' → EP X pins σ Q (.ref s.heap.objs.size) { s with heap := h' } := fun h' d' hs => by
    have hm : (s.heap.objs.size == sysModules) = false := beq_eq_false_iff_ne.mpr (Nat.ne_of_gt I.big)
    have fr := I.hok.fresh (Nat.le_refl s.heap.objs.size)
    obtain ⟨ob, e1, e2, k1, k2, k3, k4, _, k5⟩ := d'
    have rel' : KT (upd H s.heap.objs.size (.dT kvs)) kvs ys := rel.keeps fun b zs eb => by
      rw [upd_ne (ne_of_none eb fr)]
      exact eb
    exact ⟨.ref s.heap.objs.size, upd H s.heap.objs.size (.dT kvs),
      I.laid (t' := s.toks) (fun b u e => (hs.2 b (Nat.ne_of_lt (Heap.lt_size e))).trans (Heap.get?_push_of_some _ e)) (Nat.le_refl _) (show ObjOk X.prog X.w _ _ _ (.dT kvs) from ⟨z, hm, ys, rel', ob, e1, e2, k1, k2, k3, k4, k5⟩),
      rfl, q _ fr⟩
  have od : s.heap.objs.size ≠ a := fun e => absurd (Heap.lt_size g0) (by rw [e]; exact Nat.lt_irrefl _)
  have up : ∀ (b : Addr) (o : Obj), s.heap.get? b = some o → (s.heap.push { cls := .type "dict", data := .dict #[] }).get? b = some o := fun b o e => Heap.get?_push_of_some _ e
  refine callType_codes (Q₁ := fun obj z1 => obj = .ref s.heap.objs.size ∧ z1 = { s with heap := s.heap.push { cls := .type "dict", data := .dict #[] } })
    PySem.F.kt_called_dict (PySem.F.kt_typeCall_dict_1 _) PySem.F.entry_dict_init (kt_code_dict_new _ ⟨rfl, rfl⟩) ?_
  rintro obj z1 ⟨rfl, rfl⟩
  have hnew := Heap.DictOfH.new (knd := tupleKind (mixKind X.prog X.w)) s.heap
  have hold : (s.heap.push { cls := .type "dict", data := .dict #[] }).DictOfH (tupleKind (mixKind X.prog X.w)) a ys :=
    ⟨ob0, es0, ep0, up _ _ g0, g1, g2, g3, fun x hx => let ⟨o, its, n, h1, h2, h3, h4⟩ := g4 x hx; ⟨o, its, n, up _ _ h1, h2, h3, h4⟩, nd0⟩
  have tps : ∀ x ∈ ys, Shared.TypeIs { s with heap := s.heap.push { cls := .type "dict", data := .dict #[] } } (.ref x.2.1) "tuple" := fun x hx => by
    obtain ⟨o, its, n, h1, h2, h3, h4⟩ := g4 x hx
    exact ⟨o, up _ _ h1, h2⟩
  refine ⟨hnew.typeIs, PySem.F.args_dict_init_2 _ _, ?_⟩
  unfold Builtin.«dict.__init__»
  refine wpAny_bind ?_
  unfold Builtin.Dict.selfAndRest
  refine wpAny_bind (wpAny_notOrdered_dict hnew.typeIs ?_)
  show wpAny _ _ (pure (s.heap.objs.size, [Value.ref a])) _ _ _
  refine wpAny_pure ?_
  show wpAny _ _ (Builtin.Dict.updateFrom "dict.__init__" s.heap.objs.size (.ref a) [] .none) _ _ _
  unfold Builtin.Dict.updateFrom
  refine wpAny_bind (wpAny_typeOf hold.typeIs ?_)
  rw [if_neg (by decide)]
  refine wpAny_bind ?_
  unfold Builtin.Dict.merge
  refine wpAny_bind ?_
  unfold Builtin.Dict.readDirectly
  refine wpAny_bind (wpAny_isInstance hold.typeIs isSubtype_dict_dict ?_)
  simp only [Bool.not_true, Bool.false_eq_true, if_false]
  refine wpAny_bind (wpAny_specialOf hold.typeIs PySem.F.slot_dict_iter.lookup (wpAny_pure ?_))
  simp only [beq_self_eq_true, if_true]
  refine wpAny_bind (wpAny_pure ?_)
  refine wpAny_mergeDict_heap (hsz := by rw [List.length_nil]; omega) (show X.A.units + 1 + 1 < cLine by omega) od lo hnew hold (.inr ⟨tps, hap⟩) fun h' hd' _ hs' => ?_
  show wpAny _ _ (Builtin.Dict.addKeywords s.heap.objs.size [] >>= _) _ _ _
  rw [storedAllH_nil_of_nodup ys nd0] at hd'
  exact wpAny_bind (wpAny_pure (wpAny_pure ⟨rfl, key h' hd' hs'⟩))
end Rt

namespace Rt
open PySem PySem.Spec PyProof.Rows L2 RZ TL LamX
/-! ### dicts as lists, of any keys and values -/
section
variable {κ β : Type} [DecidableEq κ]
def hasA (l : List (κ × β)) (k : κ) : Bool := l.any fun e => decide (e.1 = k)
def putA (l : List (κ × β)) (k : κ) (b : β) : List (κ × β) := if hasA l k = true then l.map fun e => if e.1 = k then (e.1, b) else e else l ++ [(k, b)]
def getA (l : List (κ × β)) (k : κ) (d : β) : β := ((l.find? fun e => decide (e.1 = k)).map (·.2)).getD d
theorem hasA_iff {l : List (κ × β)} {k : κ} : hasA l k = true ↔ k ∈ l.map (·.1) := by
  unfold hasA
  rw [List.any_eq_true, List.mem_map]
  constructor
  · rintro ⟨e, he, h⟩
    exact ⟨e, he, of_decide_eq_true h⟩
  · rintro ⟨e, he, h⟩
    exact ⟨e, he, decide_eq_true h⟩
theorem putA_fst (l : List (κ × β)) (k : κ) (b : β) : (putA l k b).map (·.1) = if hasA l k = true then l.map (·.1) else l.map (·.1) ++ [k] := by
  unfold putA
  split
  · rw [List.map_map]
    refine List.map_congr_left fun e _ => ?_
    show (if e.1 = k then (e.1, b) else e).1 = e.1
    split <;> rfl
  · rw [List.map_append]
    rfl
theorem putA_nd {l : List (κ × β)} {k : κ} (b : β) (h : (l.map (·.1)).Nodup) : ((putA l k b).map (·.1)).Nodup := by
  rw [putA_fst]
  split
  · exact h
  · rename_i c
    rw [List.nodup_append]
    refine ⟨h, List.nodup_cons.mpr ⟨(fun z => nomatch z), List.nodup_nil⟩, fun x hx y hy => ?_⟩
    rw [List.mem_singleton.mp hy]
    intro e
    rw [e] at hx
    exact c (hasA_iff.mpr hx)
theorem putA_keys {l : List (κ × β)} {k j : κ} {b : β} : j ∈ (putA l k b).map (·.1) ↔ j = k ∨ j ∈ l.map (·.1) := by
  rw [putA_fst]
  split
  · rename_i c
    have c := hasA_iff.mp c
    constructor
    · exact .inr
    · rintro (rfl | h)
      · exact c
      · exact h
  · rw [List.mem_append, List.mem_singleton]
    exact Or.comm
theorem find_map {l : List (κ × β)} {k j : κ} {b : β} : ((l.map fun e => if e.1 = k then (e.1, b) else e).find? fun e => decide (e.1 = j)) = (l.find? fun e => decide (e.1 = j)).map fun e => if e.1 = k then (e.1, b) else e := by
  induction l with
  | nil => rfl
  | cons x l ih =>
    rw [List.map_cons, List.find?_cons, List.find?_cons]
    have e1 : (if x.1 = k then (x.1, b) else x).1 = x.1 := by split <;> rfl
    rw [e1]
    by_cases c : x.1 = j
    · rw [decide_eq_true c]
      rfl
    · rw [decide_eq_false c]
      exact ih
theorem find_none {l : List (κ × β)} {k : κ} (h : ¬ hasA l k = true) : (l.find? fun e => decide (e.1 = k)) = none := by
  rw [List.find?_eq_none]
  intro e he z
  exact h (hasA_iff.mpr (List.mem_map.mpr ⟨e, he, of_decide_eq_true z⟩))
theorem find_some {l : List (κ × β)} {k : κ} (h : hasA l k = true) : ∃ b, (l.find? fun e => decide (e.1 = k)) = some (k, b) := by
  cases c : l.find? fun e => decide (e.1 = k) with
  | none =>
    rw [List.find?_eq_none] at c
    obtain ⟨e, he, h2⟩ := List.mem_map.mp (hasA_iff.mp h)
    exact absurd (decide_eq_true h2) (c e he)
  | some e =>
    have h2 := List.find?_some c
    have h2 : e.1 = k := of_decide_eq_true h2
    exact ⟨e.2, by rw [← h2]⟩
theorem getA_put (l : List (κ × β)) (k j : κ) (b d : β) : getA (putA l k b) j d = if j = k then b else getA l j d := by
  unfold getA putA
  by_cases c : hasA l k = true
  · rw [if_pos c, find_map]
    by_cases e : j = k
    · subst e
      obtain ⟨b0, h0⟩ := find_some c
      rw [if_pos rfl, h0]
      show (some (if j = j then (j, b) else (j, b0)).2).getD d = b
      rw [if_pos rfl]
      rfl
    · rw [if_neg e]
      cases h0 : l.find? fun e => decide (e.1 = j) with
      | none => rfl
      | some x =>
        have h2 := List.find?_some h0
        have h2 : x.1 = j := of_decide_eq_true h2
        show (some (if x.1 = k then (x.1, b) else x).2).getD d = (some x.2).getD d
        rw [if_neg (fun z => e (h2.symm.trans z))]
  · rw [if_neg c, List.find?_append]
    by_cases e : j = k
    · subst e
      rw [if_pos rfl, find_none c]
      show ((([(j, b)] : List (κ × β)).find? fun e => decide (e.1 = j)).map (·.2)).getD d = b
      rw [List.find?_cons, decide_eq_true rfl]
      rfl
    · rw [if_neg e]
      cases h0 : l.find? fun e => decide (e.1 = j) with
      | none =>
        show ((([(k, b)] : List (κ × β)).find? fun e => decide (e.1 = j)).map (·.2)).getD d = d
        rw [List.find?_cons, decide_eq_false (fun z => e z.symm)]
        rfl
      | some x => rfl
theorem putA_perm : ∀ {l : List (κ × β)} {k : κ} {b : β}, (l.map (·.1)).Nodup → (putA l k b).Perm (l.filter (fun e => decide (e.1 ≠ k)) ++ [(k, b)])
  | [], k, b, _ => List.Perm.refl _
  | x :: l, k, b, h => by
    have h' := List.nodup_cons.mp h
    by_cases e : x.1 = k
    · have hk : hasA (x :: l) k = true := hasA_iff.mpr (by rw [← e]; exact .head _)
      have no : ∀ y ∈ l, y.1 ≠ k := fun y hy z => h'.1 (by
        show x.1 ∈ _
        rw [e, ← z]
        exact List.mem_map_of_mem (f := (·.1)) hy)
      unfold putA
      rw [if_pos hk, List.map_cons, if_pos e, e, List.filter_cons_of_neg (p := fun e : κ × β => decide (e.1 ≠ k)) (a := x) (by rw [decide_eq_false (fun z => z e)]; exact Bool.false_ne_true)]
      have m1 : (l.map fun e => if e.1 = k then (e.1, b) else e) = l := by
        have : ∀ y ∈ l, (if y.1 = k then (y.1, b) else y) = id y := fun y hy => if_neg (no y hy)
        rw [List.map_congr_left this, List.map_id]
      have m2 : l.filter (fun e => decide (e.1 ≠ k)) = l := List.filter_eq_self.mpr fun y hy => decide_eq_true (no y hy)
      rw [m1, m2]
      exact (List.perm_append_singleton (k, b) l).symm
    · have ih := putA_perm (l := l) (k := k) (b := b) h'.2
      rw [List.filter_cons_of_pos (p := fun e : κ × β => decide (e.1 ≠ k)) (a := x) (decide_eq_true e)]
      have hh : hasA (x :: l) k = hasA l k := by
        show (decide (x.1 = k) || hasA l k) = hasA l k
        rw [decide_eq_false e, Bool.false_or]
      have : putA (x :: l) k b = x :: putA l k b := by
        unfold putA
        rw [hh]
        split
        · rw [List.map_cons, if_neg e]
        · rfl
      rw [this]
      exact ih.cons x
/-- kept over into another kind of keys and values -/
theorem putA_map {κ' : Type} [DecidableEq κ'] {f : κ → κ'} (hf : ∀ a b, f a = f b → a = b) (g : β → V) (l : List (κ × β)) (k : κ) (b : β) : (putA l k b).map (fun e => (f e.1, g e.2)) = putK (l.map fun e => (f e.1, g e.2)) (f k) (g b) := by
  have hh : ((l.map fun e => (f e.1, g e.2)).any fun kv => decide (kv.1 = f k)) = hasA l k := by
    unfold hasA
    rw [List.any_map]
    congr 1
    funext e
    show decide (f e.1 = f k) = decide (e.1 = k)
    by_cases c : e.1 = k
    · rw [decide_eq_true c, decide_eq_true (by rw [c])]
    · rw [decide_eq_false c, decide_eq_false (fun z => c (hf _ _ z))]
  unfold putA putK
  rw [hh]
  split
  · rw [List.map_map, List.map_map]
    refine List.map_congr_left fun e _ => ?_
    show (f (if e.1 = k then (e.1, b) else e).1, g (if e.1 = k then (e.1, b) else e).2) = (if f e.1 = f k then (f e.1, g b) else (f e.1, g e.2))
    by_cases c : e.1 = k
    · rw [if_pos c, if_pos (by rw [c])]
    · rw [if_neg c, if_neg (fun z => c (hf _ _ z))]
  · rw [List.map_append]
    rfl
end
/-! ### the law's model of a stand -/
structure DM where
  s : List ((Int × Int) × List Int)
  n : List ((Int × Int) × Int)
  v : List (Int × Int)
def DM.nil : DM := ⟨[], [], []⟩
def DM.after (M : DM) : Evt → DM
  | .key true _ c k f => { M with s := putA M.s (c, k) (getA M.s (c, k) [] ++ [f]) }
  | .key false _ c k _ => { M with s := putA M.s (c, k) ((getA M.s (c, k) []).drop 1) }
  | .knob _ c k v => { M with n := putA M.n (c, k) v }
  | .voice _ c v => { M with v := putA M.v c v }
  | .mark .. => M
def rowS (ck : Int × Int) (f : Int) : List Int := [ck.1, ck.2, f]
def rowsN (l : List ((Int × Int) × Int)) : List (List Int) := (l.filter fun e => decide (e.2 ≠ 0)).map fun e => rowS e.1 e.2
def rowsV (l : List (Int × Int)) : List (List Int) := (l.filter fun e => decide (e.2 ≠ 0)).map fun e => [e.1, e.2]
/-- the model of a stand stands for it -/
structure DM.Is (M : DM) (st : Sta) : Prop where
  nds : (M.s.map (·.1)).Nodup
  ndn : (M.n.map (·.1)).Nodup
  ndv : (M.v.map (·.1)).Nodup
  srt : CkSorted st.snd
  snd : ∀ ck, st.snd.filter (fun r => decide (rck r = ck)) = (getA M.s ck []).map (rowS ck)
  key : ∀ r ∈ st.snd, rck r ∈ M.s.map (·.1)
  knb : st.knb = Rt.srt (rowsN M.n)
  voi : st.voi = Rt.srt (rowsV M.v)
  okn : ∀ e ∈ M.n, (0 ≤ e.1.1 ∧ e.1.1 < 128) ∧ (0 ≤ e.1.2 ∧ e.1.2 < 128) ∧ 0 ≤ e.2 ∧ e.2 < 128
  okv : ∀ e ∈ M.v, (0 ≤ e.1 ∧ e.1 < 128) ∧ 0 ≤ e.2 ∧ e.2 < 128
theorem srt_nil : Rt.srt [] = [] := List.mergeSort_nil
theorem DM.Is.nil : DM.Is .nil .nil := ⟨List.nodup_nil, List.nodup_nil, List.nodup_nil, List.Pairwise.nil, fun _ => rfl, (fun _ h => nomatch h), srt_nil.symm, srt_nil.symm, (fun _ h => nomatch h), (fun _ h => nomatch h)⟩
/-- a row more or other among the set ones -/
theorem setA_rows {d : Nat} {A B : List (List Int)} {r : List Int} (hA : RowsB d A) (hr : r.length = d ∧ TS.Bd 128 r) (hd : 1 ≤ d)
    (hB : B.Perm (A.filter (fun x => decide (x.dropLast ≠ r.dropLast)) ++ (if r.getLastD 0 = 0 then [] else [r]))) : setA (srt A) r = srt B := by
  have pA : (srt A).Perm A := List.mergeSort_perm A leR
  have pk := pA.filter (fun x => decide (x.dropLast ≠ r.dropLast))
  have bk : RowsB d (A.filter fun x => decide (x.dropLast ≠ r.dropLast)) := fun x hx => hA x (List.mem_filter.mp hx).1
  have sk : ((srt A).filter fun x => decide (x.dropLast ≠ r.dropLast)).Pairwise fun a b => TS.code 128 a ≤ TS.code 128 b := (srt_sorted A).filter _
  unfold setA
  dsimp only
  by_cases c : r.getLastD 0 = 0
  · rw [if_pos c] at hB ⊢
    rw [List.append_nil] at hB
    rw [srt_eq bk pk sk]
    exact (srt_perm bk hB).symm
  · rw [if_neg c] at hB ⊢
    have bB : RowsB d (A.filter (fun x => decide (x.dropLast ≠ r.dropLast)) ++ [r]) := fun x hx => by
      rcases List.mem_append.mp hx with h | h
      · exact bk x h
      · rw [List.mem_singleton.mp h]; exact hr
    rw [srt_perm bB hB]
    exact srt_perm bB (pk.append_right [r])
theorem putA_mem {κ β : Type} [DecidableEq κ] {l : List (κ × β)} {k : κ} {b : β} {e : κ × β} (h : e ∈ putA l k b) : e = (k, b) ∨ e ∈ l := by
  unfold putA at h
  split at h
  · obtain ⟨x, hx, rfl⟩ := List.mem_map.mp h
    by_cases c : x.1 = k
    · rw [if_pos c, c]
      exact .inl rfl
    · rw [if_neg c]
      exact .inr hx
  · rcases List.mem_append.mp h with h | h
    · exact .inr h
    · exact .inl (List.mem_singleton.mp h)
theorem rowsN_put {l : List ((Int × Int) × Int)} {c k v : Int} (h : (l.map (·.1)).Nodup) : (rowsN (putA l (c, k) v)).Perm ((rowsN l).filter (fun x => decide (x.dropLast ≠ [c, k, v].dropLast)) ++ (if [c, k, v].getLastD 0 = 0 then [] else [[c, k, v]])) := by
  unfold rowsN
  have h1 := ((putA_perm (b := v) (k := (c, k)) h).filter fun e => decide (e.2 ≠ 0)).map fun e => rowS e.1 e.2
  refine h1.trans ?_
  rw [List.filter_append, List.map_append, List.filter_map]
  have e1 : (l.filter fun e => decide (e.1 ≠ (c, k))).filter (fun e => decide (e.2 ≠ 0)) = (l.filter fun e => decide (e.2 ≠ 0)).filter ((fun x : List Int => decide (x.dropLast ≠ [c, k, v].dropLast)) ∘ fun e => rowS e.1 e.2) := by
    rw [List.filter_filter, List.filter_filter]
    refine List.filter_congr fun e _ => ?_
    have : ((fun x : List Int => decide (x.dropLast ≠ [c, k, v].dropLast)) ∘ fun e : (Int × Int) × Int => rowS e.1 e.2) e = decide (e.1 ≠ (c, k)) := by
      show decide ([e.1.1, e.1.2] ≠ [c, k]) = decide (e.1 ≠ (c, k))
      refine decide_eq_decide.mpr (not_congr ⟨fun z => ?_, fun z => by rw [z]⟩)
      injection z with z1 z2
      injection z2 with z2 _
      exact Prod.ext z1 z2
    rw [this, Bool.and_comm]
  rw [e1]
  refine List.Perm.append_left _ ?_
  by_cases z : v = 0
  · subst z
    exact List.Perm.refl _
  · rw [if_neg (show ¬ [c, k, v].getLastD 0 = 0 from z), List.filter_cons_of_pos (p := fun e : (Int × Int) × Int => decide (e.2 ≠ 0)) (a := ((c, k), v)) (decide_eq_true z)]
    exact List.Perm.refl _
theorem rowsV_put {l : List (Int × Int)} {c v : Int} (h : (l.map (·.1)).Nodup) : (rowsV (putA l c v)).Perm ((rowsV l).filter (fun x => decide (x.dropLast ≠ [c, v].dropLast)) ++ (if [c, v].getLastD 0 = 0 then [] else [[c, v]])) := by
  unfold rowsV
  have h1 := ((putA_perm (b := v) (k := c) h).filter fun e => decide (e.2 ≠ 0)).map fun e => [e.1, e.2]
  refine h1.trans ?_
  rw [List.filter_append, List.map_append, List.filter_map]
  have e1 : (l.filter fun e => decide (e.1 ≠ c)).filter (fun e => decide (e.2 ≠ 0)) = (l.filter fun e => decide (e.2 ≠ 0)).filter ((fun x : List Int => decide (x.dropLast ≠ [c, v].dropLast)) ∘ fun e => [e.1, e.2]) := by
    rw [List.filter_filter, List.filter_filter]
    refine List.filter_congr fun e _ => ?_
    have : ((fun x : List Int => decide (x.dropLast ≠ [c, v].dropLast)) ∘ fun e : Int × Int => [e.1, e.2]) e = decide (e.1 ≠ c) := by
      show decide ([e.1] ≠ [c]) = decide (e.1 ≠ c)
      refine decide_eq_decide.mpr (not_congr ⟨fun z => ?_, fun z => by rw [z]⟩)
      injection z with z1 z2
    rw [this, Bool.and_comm]
  rw [e1]
  refine List.Perm.append_left _ ?_
  by_cases z : v = 0
  · subst z
    exact List.Perm.refl _
  · rw [if_neg (show ¬ [c, v].getLastD 0 = 0 from z), List.filter_cons_of_pos (p := fun e : Int × Int => decide (e.2 ≠ 0)) (a := (c, v)) (decide_eq_true z)]
    exact List.Perm.refl _
theorem rowsN_ok {l : List ((Int × Int) × Int)} (h : ∀ e ∈ l, (0 ≤ e.1.1 ∧ e.1.1 < 128) ∧ (0 ≤ e.1.2 ∧ e.1.2 < 128) ∧ 0 ≤ e.2 ∧ e.2 < 128) : RowsB 3 (rowsN l) := fun r hr => by
  obtain ⟨e, he, rfl⟩ := List.mem_map.mp hr
  obtain ⟨h1, h2, h3⟩ := h e (List.mem_filter.mp he).1
  refine ⟨rfl, fun x hx => ?_⟩
  have hx : x ∈ [e.1.1, e.1.2, e.2] := hx
  simp only [List.mem_cons, List.mem_nil_iff, or_false] at hx
  rcases hx with rfl | rfl | rfl
  · exact h1
  · exact h2
  · exact h3
theorem rowsV_ok {l : List (Int × Int)} (h : ∀ e ∈ l, (0 ≤ e.1 ∧ e.1 < 128) ∧ 0 ≤ e.2 ∧ e.2 < 128) : RowsB 2 (rowsV l) := fun r hr => by
  obtain ⟨e, he, rfl⟩ := List.mem_map.mp hr
  obtain ⟨h1, h2⟩ := h e (List.mem_filter.mp he).1
  refine ⟨rfl, fun x hx => ?_⟩
  have hx : x ∈ [e.1, e.2] := hx
  simp only [List.mem_cons, List.mem_nil_iff, or_false] at hx
  rcases hx with rfl | rfl
  · exact h1
  · exact h2
/-- one thing more, in both -/
theorem DM.Is.after {M : DM} {st : Sta} {e : Evt} (I : M.Is st) (ok : e.Ok) : (M.after e).Is (st.after e) := by
  cases e with
  | key b t c k f =>
    cases b with
    | true =>
      refine ⟨putA_nd _ I.nds, I.ndn, I.ndv, ins_sorted I.srt, fun ck => ?_, fun r hr => ?_, I.knb, I.voi, I.okn, I.okv⟩
      · show (insN st.snd [c, k, f]).filter _ = _
        rw [ins_filter I.srt, I.snd ck]
        show _ = (getA (putA M.s (c, k) (getA M.s (c, k) [] ++ [f])) ck []).map (rowS ck)
        rw [getA_put]
        by_cases e2 : ck = (c, k)
        · subst e2
          rw [if_pos (show rck [c, k, f] = (c, k) from rfl), if_pos rfl, List.map_append]
          rfl
        · rw [if_neg (show ¬ rck [c, k, f] = ck from fun z => e2 z.symm), if_neg e2]
      · show rck r ∈ (putA M.s (c, k) _).map (·.1)
        rw [putA_keys]
        have hr : r ∈ insN st.snd [c, k, f] := hr
        unfold insN at hr
        rcases List.mem_append.mp hr with hr | hr
        · rcases List.mem_append.mp hr with hr | hr
          · exact .inr (I.key r (List.mem_of_mem_take hr))
          · rw [List.mem_singleton.mp hr]
            exact .inl rfl
        · exact .inr (I.key r (List.mem_of_mem_drop hr))
    | false =>
      refine ⟨putA_nd _ I.nds, I.ndn, I.ndv, I.srt.sublist (del_sub _ _), fun ck => ?_, fun r hr => ?_, I.knb, I.voi, I.okn, I.okv⟩
      · show (delF (fun x => decide (rck x = (c, k))) st.snd).filter _ = _
        rw [del_filter, I.snd ck]
        show _ = (getA (putA M.s (c, k) ((getA M.s (c, k) []).drop 1)) ck []).map (rowS ck)
        rw [getA_put]
        by_cases e2 : ck = (c, k)
        · subst e2
          rw [if_pos rfl, if_pos rfl, List.drop_one, List.map_tail]
        · rw [if_neg e2, if_neg e2]
      · show rck r ∈ (putA M.s (c, k) _).map (·.1)
        rw [putA_keys]
        exact .inr (I.key r ((del_sub _ _).subset hr))
  | knob t c k v =>
    refine ⟨I.nds, putA_nd _ I.ndn, I.ndv, I.srt, I.snd, I.key, ?_, I.voi, fun e he => ?_, I.okv⟩
    · show setA st.knb [c, k, v] = Rt.srt (rowsN (putA M.n (c, k) v))
      rw [I.knb]
      obtain ⟨_, o1, o2, o3⟩ := ok
      refine setA_rows (rowsN_ok I.okn) ⟨rfl, fun x hx => ?_⟩ (by decide) (rowsN_put I.ndn)
      simp only [List.mem_cons, List.mem_nil_iff, or_false] at hx
      rcases hx with rfl | rfl | rfl <;> constructor <;> omega
    · rcases putA_mem he with rfl | he
      · obtain ⟨_, o1, o2, o3⟩ := ok
        exact ⟨⟨o1.1, Int.lt_of_le_of_lt o1.2 (by decide)⟩, ⟨o2.1, Int.lt_of_le_of_lt o2.2 (by decide)⟩, o3.1, Int.lt_of_le_of_lt o3.2 (by decide)⟩
      · exact I.okn e he
  | voice t c v =>
    refine ⟨I.nds, I.ndn, putA_nd _ I.ndv, I.srt, I.snd, I.key, I.knb, ?_, I.okn, fun e he => ?_⟩
    · show setA st.voi [c, v] = Rt.srt (rowsV (putA M.v c v))
      rw [I.voi]
      obtain ⟨_, o1, o2⟩ := ok
      refine setA_rows (rowsV_ok I.okv) ⟨rfl, fun x hx => ?_⟩ (by decide) (rowsV_put I.ndv)
      simp only [List.mem_cons, List.mem_nil_iff, or_false] at hx
      rcases hx with rfl | rfl <;> constructor <;> omega
    · rcases putA_mem he with rfl | he
      · obtain ⟨_, o1, o2⟩ := ok
        exact ⟨⟨o1.1, Int.lt_of_le_of_lt o1.2 (by decide)⟩, o2.1, Int.lt_of_le_of_lt o2.2 (by decide)⟩
      · exact I.okv e he
  | mark t x => exact I
/-! ### the model's lists are the stand's -/
theorem code2 (a b : Int) : TS.code 128 [a, b] = a * 128 + b := by simp [TS.code]
theorem code3 (a b c : Int) : TS.code 128 [a, b, c] = a * 16384 + (b * 128 + c) := by simp [TS.code]
def ck2 (ck : Int × Int) : List Int := [ck.1, ck.2]
def CkB (ck : Int × Int) : Prop := (0 ≤ ck.1 ∧ ck.1 < 128) ∧ (0 ≤ ck.2 ∧ ck.2 < 128)
theorem ck2_le {a b : Int × Int} (ha : CkB a) (hb : CkB b) : TS.code 128 (ck2 a) ≤ TS.code 128 (ck2 b) ↔ leCK a b = true := by
  unfold ck2 leCK
  rw [code2, code2, decide_eq_true_iff]
  obtain ⟨⟨_, _⟩, _, _⟩ := ha
  obtain ⟨⟨_, _⟩, _, _⟩ := hb
  omega
theorem ck_split {a : Int × Int} : ∀ {S : List (List Int)}, CkSorted S → (∀ r ∈ S, leCK a (rck r) = true) → S = S.filter (fun r => decide (rck r = a)) ++ S.filter (fun r => decide (rck r ≠ a))
  | [], _, _ => rfl
  | x :: S, h, hl => by
    have h1 := List.pairwise_cons.mp h
    by_cases c : rck x = a
    · rw [List.filter_cons_of_pos (p := fun r => decide (rck r = a)) (decide_eq_true c), List.filter_cons_of_neg (p := fun r => decide (rck r ≠ a)) (by rw [decide_eq_false (fun z => z c)]; exact Bool.false_ne_true), List.cons_append]
      exact congrArg (x :: ·) (ck_split h1.2 fun r hr => hl r (.tail _ hr))
    · have no : ∀ r ∈ S, rck r ≠ a := fun r hr z => c (leCK_anti (by rw [← z]; exact h1.1 r hr) (hl x (.head _)))
      rw [List.filter_cons_of_neg (p := fun r => decide (rck r = a)) (by rw [decide_eq_false c]; exact Bool.false_ne_true), List.filter_cons_of_pos (p := fun r => decide (rck r ≠ a)) (decide_eq_true c),
        List.filter_eq_nil_iff.mpr (fun r hr z => no r hr (of_decide_eq_true z)), List.filter_eq_self.mpr (fun r hr => decide_eq_true (no r hr))]
      rfl
theorem flat_congr {α β : Type} {f g : α → List β} : ∀ {L : List α}, (∀ a ∈ L, f a = g a) → L.flatMap f = L.flatMap g
  | [], _ => rfl
  | x :: L, h => by
    rw [List.flatMap_cons, List.flatMap_cons, h x (.head _), flat_congr fun a ha => h a (.tail _ ha)]
theorem ck_flat : ∀ {L : List (Int × Int)} {S : List (List Int)}, CkSorted S → L.Pairwise (fun a b => leCK a b = true) → L.Nodup → (∀ r ∈ S, rck r ∈ L) → L.flatMap (fun ck => S.filter fun r => decide (rck r = ck)) = S
  | [], [], _, _, _, _ => rfl
  | [], r :: S, _, _, _, h => nomatch h r (.head _)
  | a :: L, S, hS, hL, hn, hm => by
    have p := List.pairwise_cons.mp hL
    have n := List.nodup_cons.mp hn
    have low : ∀ r ∈ S, leCK a (rck r) = true := fun r hr => by
      rcases List.mem_cons.mp (hm r hr) with e | h
      · rw [e]; exact leCK_refl a
      · exact p.1 _ h
    have sp := ck_split hS low
    have ih := ck_flat (L := L) (S := S.filter fun r => decide (rck r ≠ a)) (hS.filter _) p.2 n.2 (fun r hr => by
      obtain ⟨h1, h2⟩ := List.mem_filter.mp hr
      rcases List.mem_cons.mp (hm r h1) with e | h
      · exact absurd e (of_decide_eq_true h2)
      · exact h)
    rw [List.flatMap_cons]
    have e1 : (L.flatMap fun ck => S.filter fun r => decide (rck r = ck)) = L.flatMap fun ck => (S.filter fun r => decide (rck r ≠ a)).filter fun r => decide (rck r = ck) := by
      refine flat_congr fun ck hck => ?_
      rw [List.filter_filter]
      refine List.filter_congr fun r _ => ?_
      by_cases c : rck r = ck
      · have : rck r ≠ a := fun z => n.1 (by rw [← z, c]; exact hck)
        rw [decide_eq_true c, decide_eq_true this]
        rfl
      · rw [decide_eq_false c, Bool.false_and]
    rw [e1, ih]
    exact sp.symm
theorem DM.Is.parts_s {M : DM} {st : Sta} (I : M.Is st) (kb : ∀ k ∈ M.s.map (·.1), CkB k) {L : List (Int × Int)} (hp : L.Perm (M.s.map (·.1))) (hs : L.Pairwise fun a b => TS.code 128 (ck2 a) ≤ TS.code 128 (ck2 b)) :
    L.flatMap (fun ck => (getA M.s ck []).map (rowS ck)) = st.snd := by
  have hL : L.Pairwise fun a b => leCK a b = true := List.Pairwise.imp_of_mem (fun {a b} ha hb h => (ck2_le (kb a (hp.subset ha)) (kb b (hp.subset hb))).mp h) hs
  have e : (fun ck => (getA M.s ck []).map (rowS ck)) = fun ck => st.snd.filter fun r => decide (rck r = ck) := by
    funext ck
    exact (I.snd ck).symm
  rw [e]
  exact ck_flat I.srt hL (hp.nodup_iff.mpr I.nds) fun r hr => hp.symm.subset (I.key r hr)
theorem getA_mem {κ β : Type} [DecidableEq κ] {d : β} : ∀ {l : List (κ × β)} {e : κ × β}, (l.map (·.1)).Nodup → e ∈ l → getA l e.1 d = e.2
  | x :: l, e, h, he => by
    have n := List.nodup_cons.mp h
    unfold getA
    rw [List.find?_cons]
    rcases List.mem_cons.mp he with rfl | he
    · rw [decide_eq_true rfl]
      rfl
    · have ne : ¬ x.1 = e.1 := fun z => n.1 (by
        show x.1 ∈ _
        rw [z]
        exact List.mem_map_of_mem (f := (·.1)) he)
      rw [decide_eq_false ne]
      exact getA_mem n.2 he
theorem DM.Is.parts_n {M : DM} {st : Sta} (I : M.Is st) {L : List (Int × Int)} (hp : L.Perm (M.n.map (·.1))) (hs : L.Pairwise fun a b => TS.code 128 (ck2 a) ≤ TS.code 128 (ck2 b)) :
    (L.filter fun ck => decide (getA M.n ck 0 > 0)).map (fun ck => rowS ck (getA M.n ck 0)) = st.knb := by
  rw [I.knb]
  have kb : ∀ k ∈ L, CkB k := fun k hk => by
    obtain ⟨e, he, rfl⟩ := List.mem_map.mp (hp.subset hk)
    exact ⟨(I.okn e he).1, (I.okn e he).2.1⟩
  have vb : ∀ k ∈ L, 0 ≤ getA M.n k 0 ∧ getA M.n k 0 < 128 := fun k hk => by
    obtain ⟨e, he, rfl⟩ := List.mem_map.mp (hp.subset hk)
    rw [getA_mem I.ndn he]
    exact (I.okn e he).2.2
  have hn : L.Nodup := hp.nodup_iff.mpr I.ndn
  refine srt_eq (rowsN_ok I.okn) ?_ ?_
  · have h1 := (hp.filter fun ck => decide (getA M.n ck 0 > 0)).map fun ck => rowS ck (getA M.n ck 0)
    refine h1.trans ?_
    unfold rowsN
    rw [List.filter_map, List.map_map]
    have e1 : M.n.filter ((fun ck => decide (getA M.n ck 0 > 0)) ∘ (·.1)) = M.n.filter fun e => decide (e.2 ≠ 0) := List.filter_congr fun e he => by
      show decide (getA M.n e.1 0 > 0) = decide (e.2 ≠ 0)
      rw [getA_mem I.ndn he]
      have := (I.okn e he).2.2
      exact decide_eq_decide.mpr ⟨fun z => by omega, fun z => by omega⟩
    rw [e1]
    refine List.Perm.of_eq (List.map_congr_left fun e he => ?_)
    show rowS e.1 (getA M.n e.1 0) = rowS e.1 e.2
    rw [getA_mem I.ndn (List.mem_filter.mp he).1]
  · rw [List.pairwise_map]
    have hb := List.Pairwise.and hs hn
    refine (List.Pairwise.imp_of_mem (fun {a b} ha hb2 h => ?_) hb).filter _
    obtain ⟨⟨_, _⟩, _, _⟩ := kb a ha
    obtain ⟨⟨_, _⟩, _, _⟩ := kb b hb2
    obtain ⟨_, _⟩ := vb a ha
    obtain ⟨_, _⟩ := vb b hb2
    have h1 := h.1
    have ne : ¬ (a.1 = b.1 ∧ a.2 = b.2) := fun z => h.2 (Prod.ext z.1 z.2)
    unfold ck2 at h1
    unfold rowS
    rw [code2, code2] at h1
    rw [code3, code3]
    omega
theorem DM.Is.parts_v {M : DM} {st : Sta} (I : M.Is st) {L : List Int} (hp : L.Perm (M.v.map (·.1))) (hs : L.Pairwise fun a b => a ≤ b) :
    (L.filter fun c => decide (getA M.v c 0 > 0)).map (fun c => [c, getA M.v c 0]) = st.voi := by
  rw [I.voi]
  have vb : ∀ k ∈ L, 0 ≤ getA M.v k 0 ∧ getA M.v k 0 < 128 := fun k hk => by
    obtain ⟨e, he, rfl⟩ := List.mem_map.mp (hp.subset hk)
    rw [getA_mem I.ndv he]
    exact (I.okv e he).2
  have hn : L.Nodup := hp.nodup_iff.mpr I.ndv
  refine srt_eq (rowsV_ok I.okv) ?_ ?_
  · have h1 := (hp.filter fun ck => decide (getA M.v ck 0 > 0)).map fun ck => [ck, getA M.v ck 0]
    refine h1.trans ?_
    unfold rowsV
    rw [List.filter_map, List.map_map]
    have e1 : M.v.filter ((fun ck => decide (getA M.v ck 0 > 0)) ∘ (·.1)) = M.v.filter fun e => decide (e.2 ≠ 0) := List.filter_congr fun e he => by
      show decide (getA M.v e.1 0 > 0) = decide (e.2 ≠ 0)
      rw [getA_mem I.ndv he]
      have := (I.okv e he).2
      exact decide_eq_decide.mpr ⟨fun z => by omega, fun z => by omega⟩
    rw [e1]
    refine List.Perm.of_eq (List.map_congr_left fun e he => ?_)
    show [e.1, getA M.v e.1 0] = [e.1, e.2]
    rw [getA_mem I.ndv (List.mem_filter.mp he).1]
  · rw [List.pairwise_map]
    have hb := List.Pairwise.and hs hn
    refine (List.Pairwise.imp_of_mem (fun {a b} ha hb2 h => ?_) hb).filter _
    obtain ⟨_, _⟩ := vb a ha
    obtain ⟨_, _⟩ := vb b hb2
    obtain ⟨h1, h2⟩ := h
    rw [code2, code2]
    omega
end Rt

namespace Rt
open PySem PySem.Spec PyProof.Rows L2
/-! ### dict(d): a copy, where keys are numbers and texts -/
def rCopyK : List V → Hp → VK → Prop := fun xs H Q => ∃ (a : Addr) (kvs : List (Key × V)), xs = [.ref a] ∧ H a = some (.dK kvs) ∧ ∀ p, H p = none → Q (.ref p) (upd H p (.dK kvs))
theorem cr_copyK {X : Cx} : CallR X (.type "dict") rCopyK := by
  intro pins s σ H xs us Q I r q
  obtain ⟨a, kvs, ex, ha, q⟩ := q
  subst ex
  obtain ⟨u, eu, rx⟩ := vals1 r
  subst eu
  cases rx
  obtain ⟨z, lo, ys, rel, dd⟩ := dk_of I.hok ha
  obtain ⟨ob0, es0, ep0, g0, g1, g2, g3, g4, nd0⟩ := id dd
  have yz : ys.length ≤ sizeLine := (Paired.length rel) ▸ z
  have key : ∀ h', h'.DictOf (mixKind X.prog X.w) s.heap.objs.size ys → Heap.SameBut s.heap.objs.size (s.heap.push { cls := .type "dict", data := .dict #[] }) h' → EP X pins σ Q (.ref s.heap.objs.size) { s with heap := h' } := fun h' d' hs => by
    have hm : (s.heap.objs.size == sysModules) = false := beq_eq_false_iff_ne.mpr (Nat.ne_of_gt I.big)
    have fr := I.hok.fresh (Nat.le_refl s.heap.objs.size)
    obtain ⟨ob, e1, e2, k1, k2, k3, k4, k5, k6⟩ := d'
    exact ⟨.ref s.heap.objs.size, upd H s.heap.objs.size (.dK kvs),
      I.laid (t' := s.toks) (fun b u e => (hs.2 b (Nat.ne_of_lt (Heap.lt_size e))).trans (Heap.get?_push_of_some _ e)) (Nat.le_refl _) (show ObjOk X.prog X.w _ _ _ (.dK kvs) from ⟨z, hm, ys, rel, ob, e1, e2, k1, k2, k3, k4, k5, k6⟩),
      rfl, q _ fr⟩
  have od : s.heap.objs.size ≠ a := fun e => absurd (Heap.lt_size g0) (by rw [e]; exact Nat.lt_irrefl _)
  have up : ∀ (b : Addr) (o : Obj), s.heap.get? b = some o → (s.heap.push { cls := .type "dict", data := .dict #[] }).get? b = some o := fun b o e => Heap.get?_push_of_some _ e
  refine callType_codes (Q₁ := fun obj z1 => obj = .ref s.heap.objs.size ∧ z1 = { s with heap := s.heap.push { cls := .type "dict", data := .dict #[] } })
    PySem.F.kt_called_dict (PySem.F.kt_typeCall_dict_1 _) PySem.F.entry_dict_init (kt_code_dict_new _ ⟨rfl, rfl⟩) ?_
  rintro obj z1 ⟨rfl, rfl⟩
  have hnew := Heap.DictOf.new (knd := mixKind X.prog X.w) s.heap
  have hold : (s.heap.push { cls := .type "dict", data := .dict #[] }).DictOf (mixKind X.prog X.w) a ys :=
    ⟨ob0, es0, ep0, up _ _ g0, g1, g2, g3, g4, nd0⟩
  refine ⟨hnew.typeIs, PySem.F.args_dict_init_2 _ _, ?_⟩
  unfold Builtin.«dict.__init__»
  refine wpAny_bind ?_
  unfold Builtin.Dict.selfAndRest
  refine wpAny_bind (wpAny_notOrdered_dict hnew.typeIs ?_)
  show wpAny _ _ (pure (s.heap.objs.size, [Value.ref a])) _ _ _
  refine wpAny_pure ?_
  show wpAny _ _ (Builtin.Dict.updateFrom "dict.__init__" s.heap.objs.size (.ref a) [] .none) _ _ _
  unfold Builtin.Dict.updateFrom
  refine wpAny_bind (wpAny_typeOf hold.typeIs ?_)
  rw [if_neg (by decide)]
  refine wpAny_bind ?_
  unfold Builtin.Dict.merge
  refine wpAny_bind ?_
  unfold Builtin.Dict.readDirectly
  refine wpAny_bind (wpAny_isInstance hold.typeIs isSubtype_dict_dict ?_)
  simp only [Bool.not_true, Bool.false_eq_true, if_false]
  refine wpAny_bind (wpAny_specialOf hold.typeIs PySem.F.slot_dict_iter.lookup (wpAny_pure ?_))
  simp only [beq_self_eq_true, if_true]
  refine wpAny_bind (wpAny_pure ?_)
  refine wpAny_mergeDict (hsz := by rw [List.length_nil]; omega) od lo hnew hold fun h' hd' _ hs' => ?_
  show wpAny _ _ (Builtin.Dict.addKeywords s.heap.objs.size [] >>= _) _ _ _
  rw [merged_nil_of_nodup ys nd0] at hd'
  exact wpAny_bind (wpAny_pure (wpAny_pure ⟨rfl, key h' hd' hs'⟩))
end Rt

namespace Rt
open PySem PySem.Spec PyProof.Rows L2 RZ TL LamX
/-! ### the model as dicts -/
def kCK (ck : Int × Int) : List Key := keyK ck.1 ck.2
def entS (G : Hp) (e : List Key × V) (x : (Int × Int) × List Int) : Prop := e.1 = kCK x.1 ∧ ∃ l, e.2 = .ref l ∧ G l = some (.lst (x.2.map V.int))
structure DMAt (G : Hp) (p : Addr) (M : DM) : Prop where
  ex : ∃ (a b c : Addr) (sd : List (List Key × V)), G p = some (.dK [(Sum.inr "sounds", .ref a), (Sum.inr "knobs", .ref b), (Sum.inr "voices", .ref c)]) ∧ G a = some (.dT sd) ∧ Paired (entS G) sd M.s ∧
    G b = some (.dT (M.n.map fun e => (kCK e.1, V.int e.2))) ∧ G c = some (.dK (M.v.map fun e => (Sum.inl e.1, V.int e.2)))
theorem DMAt.up {G G' : Hp} {p : Addr} {M : DM} (h : DMAt G p M) (x : Ex G G') : DMAt G' p M := by
  obtain ⟨a, b, c, sd, h1, h2, h3, h4, h5⟩ := h.ex
  exact ⟨a, b, c, sd, x _ _ h1, x _ _ h2, Paired.mapP h3 fun e y z => ⟨z.1, z.2.choose, z.2.choose_spec.1, x _ _ z.2.choose_spec.2⟩, x _ _ h4, x _ _ h5⟩
theorem kCK_inj {a b : Int × Int} (h : kCK a = kCK b) : a = b := by
  unfold kCK keyK at h
  injection h with h1 h2
  injection h2 with h2 _
  injection h1 with h1
  injection h2 with h2
  exact Prod.ext h1 h2
def spSilent : Sp := fun vs H Q _ => ∃ (H0 : Hp), vs = [] ∧ Ex H0 H ∧ ∀ (p : Addr) (G H' : Hp), Go (fun _ => False) H0 H G H' → DMAt G p .nil → Q (.ref p) H'
def CkI (k : Int × Int) : Prop := (0 ≤ k.1 ∧ k.1 < 16) ∧ 0 ≤ k.2 ∧ k.2 < 128
def spAfterM : Sp := fun vs H Q _ => ∃ (m t : Addr) (M : DM) (e : Evt) (H0 : Hp), vs = [.ref m, .ref t] ∧ Ex H0 H ∧ DMAt H0 m M ∧ H0 t = some (.tup e.th) ∧ e.Ok ∧ (∀ k ∈ M.s.map (·.1), CkI k) ∧ (∀ k ∈ M.n.map (·.1), CkI k) ∧ M.s.length ≤ 500 ∧ M.n.length ≤ 500 ∧ M.v.length ≤ 500 ∧ (∀ x ∈ M.s, x.2.length ≤ 1000) ∧
  ∀ (p : Addr) (G H' : Hp), Go (fun _ => False) H0 H G H' → DMAt G p (M.after e) → Q (.ref p) H'
theorem merge3 (x y z : V) : mergeK [] [((Sum.inr ("sounds" : Str) : Key), x), ((Sum.inr ("knobs" : Str) : Key), y), ((Sum.inr ("voices" : Str) : Key), z)] = [((Sum.inr ("sounds" : Str) : Key), x), ((Sum.inr ("knobs" : Str) : Key), y), ((Sum.inr ("voices" : Str) : Key), z)] := by
  rfl
/-- all that is new can be settled -/
theorem Go.all {m : Addr → Prop} {E0 E H0 H : Hp} (g : Go m E0 E H0 H) : ∃ G, Go m E0 E G H ∧ Ex H0 G ∧ ∀ b o, E b = none → H b = some o → G b = some o := by
  refine ⟨fun b => if E b = none then H b else H0 b, ⟨fun b o h => ?_, fun b o h => ?_, fun b h1 h2 => ?_, g.keep, g.there⟩, fun b o h => ?_, fun b o h1 h2 => ?_⟩
  · show (if E b = none then H b else H0 b) = some o
    split
    · exact g.inn _ _ (g.up _ _ h)
    · exact g.up _ _ h
  · have h : (if E b = none then H b else H0 b) = some o := h
    split at h
    · exact h
    · exact g.inn _ _ h
  · show (if E b = none then H b else H0 b) = none
    rw [if_neg h1]
    exact g.new b h1 h2
  · show (if E b = none then H b else H0 b) = some o
    split
    · exact g.inn _ _ h
    · exact h
  · show (if E b = none then H b else H0 b) = some o
    rw [if_pos h1]
    exact h2
theorem ckey_of {k : Int × Int} (h : CkI k) : CKey (kCK k) := by
  obtain ⟨⟨a, b⟩, c, d⟩ := h
  refine ⟨k.1.toNat, k.2.toNat, by omega, by omega, ?_⟩
  show [Sum.inl k.1, Sum.inl k.2] = _
  rw [Int.toNat_of_nonneg a, Int.toNat_of_nonneg c]
theorem pairedMem {α β : Type} {F : α → β → Prop} : ∀ {l : List α} {m : List β}, Paired F l m → ∀ x ∈ l, ∃ y ∈ m, F x y
  | _, _, .nil, x, h => nomatch h
  | _, _, .cons r t, x, h => by
    rcases List.mem_cons.mp h with rfl | h
    · exact ⟨_, .head _, r⟩
    · obtain ⟨y, hy, hf⟩ := pairedMem t x h
      exact ⟨y, .tail _ hy, hf⟩
theorem ckey_s {G : Hp} {sd : List (List Key × V)} {l : List ((Int × Int) × List Int)} (h : Paired (entS G) sd l) (hk : ∀ k ∈ l.map (·.1), CkI k) : ∀ e ∈ sd, CKey e.1 := fun e he => by
  obtain ⟨x, hx, hf⟩ := pairedMem h e he
  rw [hf.1]
  exact ckey_of (hk _ (List.mem_map_of_mem (f := (·.1)) hx))
theorem ckey_n {l : List ((Int × Int) × Int)} (hk : ∀ k ∈ l.map (·.1), CkI k) : ∀ e ∈ l.map (fun e => (kCK e.1, V.int e.2)), CKey e.1 := fun e he => by
  obtain ⟨x, hx, rfl⟩ := List.mem_map.mp he
  exact ckey_of (hk _ (List.mem_map_of_mem (f := (·.1)) hx))
theorem val_s {G : Hp} {ck : Int × Int} : ∀ {sd : List (List Key × V)} {l : List ((Int × Int) × List Int)}, Paired (entS G) sd l →
    (∃ L, valV sd (kCK ck) = some (.ref L) ∧ G L = some (.lst ((getA l ck []).map V.int))) ∨ (valV sd (kCK ck) = none ∧ getA l ck [] = [])
  | _, _, .nil => .inr ⟨rfl, rfl⟩
  | e :: sd, x :: l, .cons h t => by
    obtain ⟨h1, L, h2, h3⟩ := h
    by_cases c : x.1 = ck
    · refine .inl ⟨L, ?_, ?_⟩
      · obtain ⟨e1, e2⟩ := e
        have h1 : e1 = kCK x.1 := h1
        have h2 : e2 = .ref L := h2
        rw [h1, h2, c]
        exact valV_pos rfl
      · unfold getA
        rw [List.find?_cons, decide_eq_true c]
        exact h3
    · have hv : valV (e :: sd) (kCK ck) = valV sd (kCK ck) := valV_neg fun z => c (kCK_inj (h1.symm.trans z))
      have hg : getA (x :: l) ck [] = getA l ck [] := by
        unfold getA
        rw [List.find?_cons, decide_eq_false c]
      rw [hv, hg]
      exact val_s t
theorem has_s {G : Hp} {ck : Int × Int} {sd : List (List Key × V)} {l : List ((Int × Int) × List Int)} (h : Paired (entS G) sd l) : (sd.any fun kv => decide (kv.1 = kCK ck)) = hasA l ck := by
  induction h with
  | nil => rfl
  | @cons e x sd l h1 t ih =>
    show (decide (e.1 = kCK ck) || _) = (decide (x.1 = ck) || hasA l ck)
    rw [ih, h1.1]
    congr 1
    by_cases c : x.1 = ck
    · rw [decide_eq_true c, decide_eq_true (by rw [c])]
    · rw [decide_eq_false c, decide_eq_false (fun z => c (kCK_inj z))]
theorem paired_put {G G' : Hp} {ck : Int × Int} {sd : List (List Key × V)} {l : List ((Int × Int) × List Int)} {L : Addr} {ns : List Int} (h : Paired (entS G) sd l) (hx : ∀ e ∈ sd, ∀ L o, e.2 = .ref L → G L = some o → G' L = some o) (hL : G' L = some (.lst (ns.map V.int))) : Paired (entS G') (putK sd (kCK ck) (.ref L)) (putA l ck ns) := by
  unfold putK putA
  rw [has_s h]
  have up : Paired (entS G') sd l := by
    clear hL
    induction h with
    | nil => exact .nil
    | @cons e x sd l h1 t ih =>
      obtain ⟨e1, L1, e2, e3⟩ := h1
      exact .cons ⟨e1, L1, e2, hx e (.head _) L1 _ e2 e3⟩ (ih fun e he => hx e (.tail _ he))
  split
  · rename_i hc
    clear h hx hc
    induction up with
    | nil => exact .nil
    | @cons e x sd l h1 t ih =>
      refine .cons ?_ ih
      show entS G' (if e.1 = kCK ck then (e.1, .ref L) else e) (if x.1 = ck then (x.1, ns) else x)
      by_cases c : x.1 = ck
      · rw [if_pos (show e.1 = kCK ck by rw [h1.1, c]), if_pos c]
        exact ⟨h1.1, L, rfl, hL⟩
      · rw [if_neg (show ¬ e.1 = kCK ck from fun z => c (kCK_inj (h1.1.symm.trans z))), if_neg c]
        exact h1
  · exact pairedApp up (.cons ⟨rfl, L, rfl, hL⟩ .nil)
theorem getA_len {ck : Int × Int} {n : Nat} : ∀ {l : List ((Int × Int) × List Int)}, (∀ x ∈ l, x.2.length ≤ n) → (getA l ck []).length ≤ n
  | [], _ => Nat.zero_le _
  | x :: l, h => by
    unfold getA
    rw [List.find?_cons]
    by_cases c : x.1 = ck
    · rw [decide_eq_true c]
      exact h x (.head _)
    · rw [decide_eq_false c]
      exact getA_len (l := l) fun y hy => h y (.tail _ hy)
/-- how great the model is -/
structure DMB (M : DM) (n : Nat) : Prop where
  ks : ∀ k ∈ M.s.map (·.1), CkI k
  kn : ∀ k ∈ M.n.map (·.1), CkI k
  ls : M.s.length ≤ n
  ln : M.n.length ≤ n
  lv : M.v.length ≤ n
  ll : ∀ x ∈ M.s, x.2.length ≤ n
theorem putA_len {κ β : Type} [DecidableEq κ] (l : List (κ × β)) (k : κ) (b : β) : (putA l k b).length ≤ l.length + 1 := by
  unfold putA
  split
  · rw [List.length_map]; omega
  · rw [List.length_append]; exact Nat.le_refl _
theorem DMB.nil : DMB .nil 0 := ⟨(fun _ h => nomatch h), (fun _ h => nomatch h), Nat.le_refl _, Nat.le_refl _, Nat.le_refl _, (fun _ h => nomatch h)⟩
theorem DMB.after {M : DM} {n : Nat} {e : Evt} (h : DMB M n) (ok : e.Ok) : DMB (M.after e) (n + 1) := by
  have up : ∀ x ∈ M.s, x.2.length ≤ n + 1 := fun x hx => Nat.le_succ_of_le (h.ll x hx)
  have big : DMB M (n + 1) := ⟨h.ks, h.kn, Nat.le_succ_of_le h.ls, Nat.le_succ_of_le h.ln, Nat.le_succ_of_le h.lv, up⟩
  have key : ∀ (c k : Int) (ns : List Int), CkI (c, k) → ns.length ≤ n + 1 → DMB { M with s := putA M.s (c, k) ns } (n + 1) := fun c k ns hc hn => by
    refine ⟨fun y hy => ?_, h.kn, Nat.le_trans (putA_len _ _ _) (Nat.succ_le_succ h.ls), big.ln, big.lv, fun x hx => ?_⟩
    · rcases putA_keys.mp hy with rfl | hy
      · exact hc
      · exact h.ks y hy
    · rcases putA_mem hx with rfl | hx
      · exact hn
      · exact up x hx
  cases e with
  | key b t c k f =>
    obtain ⟨_, o1, o2, _⟩ := ok
    have hc : CkI (c, k) := ⟨⟨o1.1, Int.lt_of_le_of_lt o1.2 (by decide)⟩, o2.1, Int.lt_of_le_of_lt o2.2 (by decide)⟩
    have gl := getA_len (ck := (c, k)) h.ll
    cases b with
    | true => exact key c k _ hc (by rw [List.length_append]; exact Nat.succ_le_succ gl)
    | false => exact key c k _ hc (by rw [List.length_drop]; omega)
  | knob t c k v =>
    obtain ⟨_, o1, o2, _⟩ := ok
    have hc : CkI (c, k) := ⟨⟨o1.1, Int.lt_of_le_of_lt o1.2 (by decide)⟩, o2.1, Int.lt_of_le_of_lt o2.2 (by decide)⟩
    refine ⟨h.ks, fun y hy => ?_, big.ls, Nat.le_trans (putA_len _ _ _) (Nat.succ_le_succ h.ln), big.lv, up⟩
    rcases putA_keys.mp hy with rfl | hy
    · exact hc
    · exact h.kn y hy
  | voice t c v => exact ⟨h.ks, h.kn, big.ls, big.ln, Nat.le_trans (putA_len _ _ _) (Nat.succ_le_succ h.lv), up⟩
  | mark t x => exact big
def dmOf (es : List Evt) : DM := es.foldl DM.after .nil
theorem dmOf_snoc (es : List Evt) (e : Evt) : dmOf (es ++ [e]) = (dmOf es).after e := by
  unfold dmOf
  rw [List.foldl_append]
  rfl
theorem dmOf_ok : ∀ {es : List Evt}, (∀ e ∈ es, e.Ok) → ∀ i, i ≤ es.length → DMB (dmOf (es.take i)) i ∧ (dmOf (es.take i)).Is (behind (es.take i))
  | es, h, 0, _ => ⟨DMB.nil, DM.Is.nil⟩
  | es, h, i + 1, hi => by
    obtain ⟨h1, h2⟩ := dmOf_ok h i (by omega)
    have he : es[i]? = some es[i] := List.getElem?_eq_getElem (by omega)
    have ok := h es[i] (List.getElem_mem _)
    rw [take_snoc he, dmOf_snoc, behind_snoc]
    exact ⟨h1.after ok, h2.after ok⟩
def spBehind : Sp := fun vs H Q _ => ∃ (m r : Addr) (ps : List Addr) (es : List Evt) (H0 : Hp), vs = [.ref m, .ref r] ∧ Ex H0 H ∧ DMAt H0 m .nil ∧ H0 r = some (.lst (ps.map V.ref)) ∧ Evs H0 ps (es.map Evt.v) ∧ es.length ≤ 400 ∧ (∀ e ∈ es, e.Ok) ∧
  ∀ (p : Addr) (G H' : Hp), Go (fun _ => False) H0 H G H' → DMAt G p (dmOf es) → Q (.ref p) H'
end Rt

set_option autoImplicit false
namespace Rt
open PySem PySem.Spec PyProof.Rows L2 RZ TL LamX
variable [TabsT]
/-! ### rows of numbers -/
def rwZ (r : List Int) : Z := .tup (intsZ r)
def rwsZ (rs : List (List Int)) : List Z := rs.map rwZ
theorem intsZ_imm : ∀ l : List Int, Z.imms (intsZ l) = true
  | [] => rfl
  | _ :: l => by show (true && Z.imms (intsZ l)) = true; rw [intsZ_imm l]; rfl
theorem rwsZ_imm : ∀ rs : List (List Int), Z.imms (rwsZ rs) = true
  | [] => rfl
  | r :: rs => by show (Z.imms (intsZ r) && Z.imms (rwsZ rs)) = true; rw [intsZ_imm r, rwsZ_imm rs]; rfl
theorem zps_row {K : PySem.W.Frag} {H : Hp} {v : V} {r : List Int} (h : Zp K H v (rwZ r)) : ∃ a, v = .ref a ∧ SqT K H a (r.map V.int) := by
  obtain ⟨a, vs, e, h1, h2⟩ := zp_tup h
  rw [zps_ints h2] at h1
  exact ⟨a, e, h1⟩
theorem zps_perm {K : PySem.W.Frag} {H : Hp} {vs ws : List V} (p : ws.Perm vs) : ∀ {rs : List (List Int)}, Zps K H vs (rwsZ rs) → ∃ ys : List (List Int), ys.Perm rs ∧ Zps K H ws (rwsZ ys) := by
  have key : ∀ {vs ws : List V}, vs.Perm ws → ∀ {rs : List (List Int)}, Zps K H vs (rwsZ rs) → ∃ ys : List (List Int), ys.Perm rs ∧ Zps K H ws (rwsZ ys) := by
    intro vs ws p
    induction p with
    | nil => intro rs h; exact ⟨rs, .refl _, h⟩
    | cons x _ ih =>
      intro rs h
      match rs, h with
      | r :: rs, .cons a b =>
        obtain ⟨ys, h1, h2⟩ := ih b
        exact ⟨r :: ys, h1.cons r, .cons a h2⟩
    | swap x y l =>
      intro rs h
      match rs, h with
      | r :: q :: rs, .cons a (.cons b c) => exact ⟨q :: r :: rs, .swap r q rs, .cons b (.cons a c)⟩
    | trans _ _ i1 i2 =>
      intro rs h
      obtain ⟨ys, h1, h2⟩ := i1 h
      obtain ⟨zs, h3, h4⟩ := i2 h2
      exact ⟨zs, h3.trans h1, h4⟩
  intro rs h
  exact key p.symm h
theorem zps_mem_row {K : PySem.W.Frag} {H : Hp} : ∀ {vs : List V} {rs : List (List Int)}, Zps K H vs (rwsZ rs) → ∀ x ∈ vs, ∃ r ∈ rs, TupI K H x r
  | _, [], .nil, x, h => nomatch h
  | v :: vs, r :: rs, .cons a b, x, h => by
    rcases List.mem_cons.mp h with rfl | h
    · exact ⟨r, .head _, zps_row a⟩
    · obtain ⟨q, h1, h2⟩ := zps_mem_row b x h
      exact ⟨q, .tail _ h1, h2⟩
theorem zps_pair_row {K : PySem.W.Frag} {H : Hp} {P : List Int → List Int → Prop} : ∀ {vs : List V} {rs : List (List Int)}, Zps K H vs (rwsZ rs) → vs.Pairwise (fun x y => ∀ n m, TupI K H x n → TupI K H y m → P n m) → rs.Pairwise P
  | _, [], .nil, _ => .nil
  | v :: vs, r :: rs, .cons a b, h => by
    obtain ⟨h1, h2⟩ := List.pairwise_cons.mp h
    refine List.pairwise_cons.mpr ⟨fun q hq => ?_, zps_pair_row b h2⟩
    have : ∀ {vs : List V} {rs : List (List Int)}, Zps K H vs (rwsZ rs) → ∀ q ∈ rs, ∃ x ∈ vs, TupI K H x q := by
      intro vs
      induction vs with
      | nil =>
        intro rs h q hq
        match rs, h with
        | [], .nil => cases hq
      | cons v vs ih =>
        intro rs h q hq
        match rs, h with
        | r :: rs, .cons a b =>
          rcases List.mem_cons.mp hq with rfl | hq
          · exact ⟨v, .head _, zps_row a⟩
          · obtain ⟨x, h1, h2⟩ := ih b q hq
            exact ⟨x, .tail _ h1, h2⟩
    obtain ⟨x, hx, tx⟩ := this b q hq
    exact h1 x hx r q (zps_row a) tx
section
variable {fr : Fr} {F F' : Hp} {Γ : G} {T A : List (V × B)} {σ : L2.St} {H H' : Hp} {S S' : Addr → Own} {mg : Str → Option Value}
/-- tuples of numbers, one not behind the other -/
def zLeT : B → B → (B → Prop) → Prop := fun b1 b2 k => ∃ ns ms : List Int, b1.z = some (rwZ ns) ∧ b2.z = some (rwZ ms) ∧
  k (.set (.bl (Ob.lexAt (fun j => decide (ns.getD j 0 = ms.getD j 0)) (fun j => decide (ns.getD j 0 ≤ ms.getD j 0)) (decide (ns.length ≤ ms.length)) 0 (min ns.length ms.length))))
theorem s_leT : SO2 fr (rLeT fr.K) zLeT := by
  intro F Γ T σ H Q k v1 v2 b1 b2 R kq h
  obtain ⟨ns, ms, e1, e2, h⟩ := h
  obtain ⟨a, rfl, h1⟩ := zps_row (R.zp (j := 0) rfl e1)
  obtain ⟨b, rfl, h2⟩ := zps_row (R.zp (j := 1) rfl e2)
  exact ⟨a, b, ns, ms, rfl, rfl, h1, h2, kq _ h _ H (R.sc fun _ => .bl _)⟩
/-- sorted, of rows of d numbers below B -/
def zSortT (d : Nat) (B : Int) : List Rt.B → (Rt.B → Prop) → Prop := fun bs k => match bs with
  | [b] => ∃ rs : List (List Int), b.z = some (.lst (rwsZ rs)) ∧ rs.length < 64 ∧ (∀ r ∈ rs, r.length = d ∧ TS.Bd B r) ∧ ∀ ys : List (List Int), ys.Perm rs → ys.Pairwise (fun n m => TS.code B n ≤ TS.code B m) → k (.own (.lst (rwsZ ys)))
  | _ => False
theorem s_sortT {d : Nat} {B : Int} : SCB fr (rSortU fr.K d B) (zSortT d B) := by
  intro F Γ T A σ H Q k R kq h
  unfold zSortT at h
  split at h
  · rename_i b e
    obtain ⟨v, rfl⟩ := one_arg e.symm
    obtain ⟨rs, e1, h64, hb, h⟩ := h
    have hz := R.zp (j := 0) rfl e1
    obtain ⟨a, vs, rfl, h1, h2⟩ := zp_lst hz
    have ln : vs.length = rs.length := by rw [h2.len]; unfold rwsZ; rw [List.length_map]
    refine ⟨a, vs, rfl, SqL.of h1, by omega, fun x hx => ?_, fun ys p hp hs hn => ?_⟩
    · obtain ⟨r, hr, t⟩ := zps_mem_row h2 x hx
      exact ⟨r, t, hb r hr⟩
    · obtain ⟨qs, q1, q2⟩ := zps_perm hp h2
      refine kq _ (h qs q1 (zps_pair_row q2 hs)) _ _ (R.newL hn fun S R S' H' hk hS => ?_)
      exact q2.imm (fun b xs e => vw_at (hk _ _ e rfl) rfl (.inl rfl)) (rwsZ_imm _)
  · exact h.elim
end
end Rt
namespace Rt
open PySem PySem.Spec PyProof.Rows L2 RZ TL LamX
variable [TabsT]
theorem pys_ints : ∀ l : List Int, Z.pys (intsZ l) = l.map PyData.int
  | [] => rfl
  | _ :: l => congrArg _ (pys_ints l)
theorem pls_ints : ∀ l : List Int, Z.pls (intsZ l) = true
  | [] => rfl
  | _ :: l => pls_ints l
theorem deps_ints : ∀ l : List Int, Z.deps (intsZ l) = 0
  | [] => rfl
  | _ :: l => by show max 0 (Z.deps (intsZ l)) = 0; rw [deps_ints l]; rfl
theorem row_pl {r : List Int} (h : r.length ≤ 100000) : (rwZ r).pl = true ∧ (rwZ r).dep ≤ 1 := by
  refine ⟨?_, ?_⟩
  · show (decide ((intsZ r).length ≤ 100000) && Z.pls (intsZ r)) = true
    rw [pls_ints, Bool.and_true, decide_eq_true_iff]
    unfold intsZ
    rw [List.length_map]
    exact h
  · show Z.deps (intsZ r) + 1 ≤ 1
    rw [deps_ints]
    exact Nat.le_refl _
theorem EqD.rows {a b : List Int} (ha : a.length ≤ 100000) (hb : b.length ≤ 100000) : EqD (rwZ a) (rwZ b) (decide (a = b)) := by
  refine ⟨(row_pl ha).1, (row_pl hb).1, Nat.le_trans (row_pl ha).2 (by decide), Nat.le_trans (row_pl hb).2 (by decide), ?_⟩
  show PyData.eqv (.tuple (Z.pys (intsZ a))) (.tuple (Z.pys (intsZ b))) = _
  rw [pys_ints, pys_ints]
  exact eqv_tup a b
theorem rows_pl {rs : List (List Int)} (h : ∀ r ∈ rs, r.length ≤ 100000) (hl : rs.length ≤ 100000) : (Z.lst (rwsZ rs)).pl = true ∧ (Z.lst (rwsZ rs)).dep ≤ 2 := by
  have p : Z.pls (rwsZ rs) = true ∧ Z.deps (rwsZ rs) ≤ 1 := by
    clear hl
    induction rs with
    | nil => exact ⟨rfl, Nat.zero_le _⟩
    | cons r rs ih =>
      obtain ⟨h1, h2⟩ := ih fun q hq => h q (.tail _ hq)
      obtain ⟨h3, h4⟩ := row_pl (h r (.head _))
      exact ⟨by show ((rwZ r).pl && Z.pls (rwsZ rs)) = true; rw [h3, h1]; rfl, by show max (rwZ r).dep (Z.deps (rwsZ rs)) ≤ 1; omega⟩
  refine ⟨?_, ?_⟩
  · show (decide ((rwsZ rs).length ≤ 100000) && Z.pls (rwsZ rs)) = true
    rw [p.1, Bool.and_true, decide_eq_true_iff]
    unfold rwsZ
    rw [List.length_map]
    exact hl
  · show Z.deps (rwsZ rs) + 1 ≤ 2
    have := p.2
    omega
/-- an event without its tick -/
def thZ (e : Evt) : Z := .tup (e.th.map vZ)
def staZ (C : Addr) (s : Sta) : Z := .obj C [fS, fK, fV] [.lst (rwsZ s.snd), .lst (rwsZ s.knb), .lst (rwsZ s.voi)]
def rzSnd : RZs := fun zs k _ => ∃ (S : List (List Int)) (e : Evt), zs = [.lst (rwsZ S), thZ e] ∧ RowsB 3 S ∧ S.length ≤ 1000 ∧ k (.set (.lst (rwsZ (sndA S e))))
def rzSet (d : Nat) : RZs := fun zs k _ => ∃ (S : List (List Int)) (e : Evt), zs = [.lst (rwsZ S), thZ e] ∧ RowsB d S ∧ S.length ≤ 62 ∧ e.Ok ∧ e.row.length = d ∧ 1 ≤ d ∧ (∀ b t c k f, e ≠ .key b t c k f) ∧ k (.set (.lst (rwsZ (setA S e.row))))
def rmSta : RM := fun ns cs zs k _ => ns = [] ∧ cs = [] ∧ zs = [] ∧ k [fS, fK, fV] [.l [], .l [], .l []] (.set .non)
/-- bounds of a stand: notes, others -/
structure Sta.Bo (s : Sta) (n m : Nat) : Prop where
  b1 : RowsB 3 s.snd
  b2 : RowsB 3 s.knb
  b3 : RowsB 2 s.voi
  l1 : s.snd.length ≤ n
  l2 : s.knb.length ≤ m
  l3 : s.voi.length ≤ m
def rzAfter (C : Addr) : RZs := fun zs k _ => ∃ (s : Sta) (e : Evt), zs = [staZ C s, thZ e] ∧ s.Bo 1000 62 ∧ e.Ok ∧ k (.set (staZ C (s.after e)))
def rzTold (C : Addr) (f : Sta → List (List Int)) : RZs := fun zs k _ => ∃ s : Sta, zs = [staZ C s] ∧ s.snd.length ≤ 1000 ∧ s.knb.length ≤ 1000 ∧ s.voi.length ≤ 1000 ∧ k (.frs (.lst (rwsZ (f s))))
def rzStandBehind (C : Addr) : RZs := fun zs k _ => ∃ (s : Sta) (es : List Evt), zs = [staZ C s, trackZ es] ∧ es.length ≤ 1000 ∧ (∀ e ∈ es, e.Ok) ∧ (∀ i, i ≤ es.length → ((es.take i).foldl Sta.after s).Bo 1000 62) ∧ k (.set (staZ C (es.foldl Sta.after s)))
end Rt
namespace Rt
open PySem PySem.Spec PyProof.Rows L2 RZ TL LamX
variable [TabsT]
section
variable {fr : Fr}
/-- a, b = a list -/
def zgLst (n : Nat) (g : ZGs) : ZG := fun b Γ k => b.tk fun z => match z with
  | .lst l => l.length = n ∧ g l Γ k
  | _ => False
theorem zg_lst {n : Nat} {t : TGs} {zt : ZGs} (h : SGs fr t zt) : SG fr (gLst fr.K n t) (zgLst n zt) := by
  intro F Γ T σ H v b Q k R kq q
  obtain ⟨z, hz, R1⟩ := R.tk q
  split at hz
  · rename_i l
    obtain ⟨F', h1, R2, h3⟩ := R1.low
    obtain ⟨a, vs, rfl, h4, h5⟩ := zp_lst h3
    exact ⟨a, vs, rfl, SqL.of (R2.le _ _ h4), by rw [h5.len]; exact hz.1, h F' Γ T σ H vs l Q k R2 h5 (fun Γ' q' σ' H' R' => kq _ q' _ _ (R'.weak h1)) hz.2⟩
  · exact hz.elim
end
end Rt

set_option autoImplicit false
namespace Rt
open PySem PySem.Spec PyProof.Rows L2 RZ TL LamX
/-! ### sorted pairs, however many -/
theorem codeB2 (B a b : Int) : TS.code B [a, b] = a * B + b := by simp [TS.code, Int.pow_succ]
/-- a tuple of numbers in memory -/
def TupH (H : Hp) (x : V) (ns : List Int) : Prop := ∃ t, x = .ref t ∧ H t = some (.tup (ns.map V.int))
def rSortQ (K : PySem.W.Frag) (B : Int) : List V → Hp → VK → Prop := fun vs H Q => ∃ (a : Addr) (xs : List V), vs = [V.ref a] ∧ SqL K H a xs ∧ (∀ x ∈ xs, ∃ i j : Int, TupH H x [i, j] ∧ TS.Bd B [i, j]) ∧
  ∀ (ys : List V) (p : Addr), ys.Perm xs → ys.Pairwise (fun x y => ∀ n m, TupH H x n → TupH H y m → TS.code B n ≤ TS.code B m) → H p = none → Q (.ref p) (upd H p (.lst ys))
theorem cr_sortQ {X : Cx} {B : Int} : CallR X (.builtin "sorted") (rSortQ X.K B) := by
  intro pins s σ H vs us Q I r h
  obtain ⟨a, xs, rfl, hs, hx, q⟩ := h
  let k : V → Int × Int := fun v => ((rowOf H v).getD 0 0, (rowOf H v).getD 1 0)
  have kk : ∀ x ∈ xs, ∃ t, x = V.ref t ∧ H t = some (.tup [.int (k x).1, .int (k x).2]) ∧ TS.Bd B [(k x).1, (k x).2] := fun x hm => by
    obtain ⟨i, j, ⟨t, rfl, ht⟩, hb⟩ := hx x hm
    have e : k (.ref t) = (i, j) := by
      show ((rowOf H (.ref t)).getD 0 0, (rowOf H (.ref t)).getD 1 0) = (i, j)
      rw [rowOf_eq ht]
      rfl
    exact ⟨t, rfl, by rw [e]; exact ht, by rw [e]; exact hb⟩
  refine cr_sortedPO pins s σ H _ us Q I r ⟨a, xs, k, rfl, hs, fun x hm => ?_, fun ys p h1 h2 hp => q ys p h2.perm ?_ hp⟩
  · obtain ⟨t, e, ht, _⟩ := kk x hm
    exact ⟨t, e, ht⟩
  · have h1 : ys.Pairwise (fun x y => ltP k y x = false) := h1
    refine h1.imp_of_mem fun {x y} hx hy h n m ⟨t, et, ht⟩ ⟨u, eu, hu⟩ => ?_
    obtain ⟨t', e1, h1', b1⟩ := kk x (h2.perm.mem_iff.mp hx)
    obtain ⟨u', e2, h2', b2⟩ := kk y (h2.perm.mem_iff.mp hy)
    rw [e1] at et
    rw [e2] at eu
    cases et
    cases eu
    have q1 : n = [(k x).1, (k x).2] := by
      rw [h1'] at ht
      injection ht with ht
      injection ht with ht
      have : [(k x).1, (k x).2].map V.int = n.map V.int := ht
      have := congrArg (List.map intV) this
      rw [List.map_map, List.map_map] at this
      have e : ∀ l : List Int, l.map (intV ∘ V.int) = l := fun l => (List.map_congr_left fun _ _ => rfl).trans (List.map_id l)
      rw [e, e] at this
      exact this.symm
    have q2 : m = [(k y).1, (k y).2] := by
      rw [h2'] at hu
      injection hu with hu
      injection hu with hu
      have : [(k y).1, (k y).2].map V.int = m.map V.int := hu
      have := congrArg (List.map intV) this
      rw [List.map_map, List.map_map] at this
      have e : ∀ l : List Int, l.map (intV ∘ V.int) = l := fun l => (List.map_congr_left fun _ _ => rfl).trans (List.map_id l)
      rw [e, e] at this
      exact this.symm
    rw [q1, q2, codeB2, codeB2]
    have h := SrtO.lexB_no.mp h
    have c1 := b1 _ (.head _)
    have c2 := b1 _ (.tail _ (.head _))
    have c3 := b2 _ (.head _)
    have c4 := b2 _ (.tail _ (.head _))
    generalize (k x).1 = x1 at *
    generalize (k x).2 = x2 at *
    generalize (k y).1 = y1 at *
    generalize (k y).2 = y2 at *
    have le : x1 < y1 ∨ (x1 = y1 ∧ x2 ≤ y2) := by omega
    rcases le with le | ⟨rfl, le⟩
    · have : x1 * B + B ≤ y1 * B := by
        have := Int.mul_le_mul_of_nonneg_right (show x1 + 1 ≤ y1 by omega) (show 0 ≤ B by omega)
        rw [Int.add_mul, Int.one_mul] at this
        exact this
      omega
    · omega
/-- sorted references are those of the sorted rows -/
theorem sorted_rowsH {G H : Hp} {d : Nat} {qs : List Addr} {rs : List (List Int)} {ys : List V} (h : Rws G qs rs) (hb : RowsB d rs) (e : Ex G H) (hp : ys.Perm (qs.map V.ref)) (hs : ys.Pairwise fun x y => ∀ n m, TupH H x n → TupH H y m → TS.code 128 n ≤ TS.code 128 m) :
    ∃ ks, ys = ks.map V.ref ∧ Rws G ks (srt rs) := by
  have mem : ∀ v ∈ ys, ∃ (q : Addr) (ns : List Int), v = V.ref q ∧ G q = some (.tup (ns.map V.int)) := fun v hv => by
    obtain ⟨q, ns, h1, h2, _⟩ := rws_mem h v (hp.mem_iff.mp hv)
    exact ⟨q, ns, h1, h2⟩
  obtain ⟨h1, h2⟩ := rws_of ys mem
  refine ⟨ys.map adr, h1, ?_⟩
  have pm : (ys.map (rowOf G)).Perm rs := by
    have := hp.map (rowOf G)
    rwa [rws_map h] at this
  have ps : (ys.map (rowOf G)).Pairwise fun a b => TS.code 128 a ≤ TS.code 128 b := by
    rw [List.pairwise_map]
    refine hs.imp_of_mem fun {a b} ha hb' z => ?_
    obtain ⟨q, ns, rfl, hq⟩ := mem a ha
    obtain ⟨q2, ns2, rfl, hq2⟩ := mem b hb'
    rw [rowOf_eq hq, rowOf_eq hq2]
    exact z _ _ ⟨q, rfl, e _ _ hq⟩ ⟨q2, rfl, e _ _ hq2⟩
  rw [← srt_eq hb pm ps]
  exact h2
end Rt

set_option autoImplicit false
namespace Rt
open PySem PySem.Spec PyProof.Rows L2 RZ TL LamX
variable [TabsT]
/-! ### the law's model of a stand, as data -/
def modelZ (M : DM) : Z := .dk [Sum.inr "sounds", Sum.inr "knobs", Sum.inr "voices"] [.dt (M.s.map fun x => kCK x.1) (M.s.map fun x => .lst (intsZ x.2)), .dt (M.n.map fun e => kCK e.1) (M.n.map fun e => .int e.2), .dk (M.v.map fun e => Sum.inl e.1) (M.v.map fun e => .int e.2)]
def spAfterMK (K : PySem.W.Frag) : Sp := fun vs H Q _ => ∃ (m t : Addr) (M : DM) (e : Evt) (H0 : Hp), vs = [.ref m, .ref t] ∧ Ex H0 H ∧ DMAt H0 m M ∧ SqT K H0 t e.th ∧ e.Ok ∧ (∀ k ∈ M.s.map (·.1), CkI k) ∧ (∀ k ∈ M.n.map (·.1), CkI k) ∧ M.s.length ≤ 500 ∧ M.n.length ≤ 500 ∧ M.v.length ≤ 500 ∧ (∀ x ∈ M.s, x.2.length ≤ 1000) ∧
  ∀ (p : Addr) (G H' : Hp), Go (fun _ => False) H0 H G H' → DMAt G p (M.after e) → Q (.ref p) H'
def spBehindK (K : PySem.W.Frag) : Sp := fun vs H Q _ => ∃ (m r : Addr) (ps : List Addr) (es : List Evt) (H0 : Hp), vs = [.ref m, .ref r] ∧ Ex H0 H ∧ DMAt H0 m .nil ∧ H0 r = some (.lst (ps.map V.ref)) ∧ EvsK K H0 ps es ∧ es.length ≤ 400 ∧ (∀ e ∈ es, e.Ok) ∧
  ∀ (p : Addr) (G H' : Hp), Go (fun _ => False) H0 H G H' → DMAt G p (dmOf es) → Q (.ref p) H'
theorem zp_dk {K : PySem.W.Frag} {H : Hp} {v : V} {ks : List Key} {l : List Z} (h : Zp K H v (.dk ks l)) : ∃ a vs, v = .ref a ∧ H a = some (.dK (ks.zip vs)) ∧ ks.length = vs.length ∧ Zps K H vs l := by
  cases h with
  | dk a b c => exact ⟨_, _, rfl, a, b, c⟩
theorem zp_dt {K : PySem.W.Frag} {H : Hp} {v : V} {ks : List (List Key)} {l : List Z} (h : Zp K H v (.dt ks l)) : ∃ a vs, v = .ref a ∧ H a = some (.dT (ks.zip vs)) ∧ ks.length = vs.length ∧ Zps K H vs l := by
  cases h with
  | dt a b c => exact ⟨_, _, rfl, a, b, c⟩
theorem ents_of {K : PySem.W.Frag} {H : Hp} : ∀ {s : List ((Int × Int) × List Int)} {vs : List V}, Zps K H vs (s.map fun x => .lst (intsZ x.2)) → Paired (entS H) ((s.map fun x => kCK x.1).zip vs) s
  | [], _, .nil => .nil
  | x :: s, _, .cons a b => by
    obtain ⟨l, us, rfl, h1, h2⟩ := zp_lst a
    rw [zps_ints h2] at h1
    exact .cons ⟨rfl, l, rfl, h1⟩ (ents_of b)
theorem zp_zip {α : Type} (f : α → List Key) (g : α → Int) {K : PySem.W.Frag} {H : Hp} : ∀ {l : List α} {vs : List V}, Zps K H vs (l.map fun e => .int (g e)) → (l.map f).zip vs = l.map fun e => (f e, V.int (g e))
  | [], _, .nil => rfl
  | x :: s, _, .cons a b => by
    rw [zp_int a]
    show (f x, V.int (g x)) :: (s.map f).zip _ = _
    rw [zp_zip f g b]
    rfl
theorem zp_zipK {α : Type} (f : α → Key) (g : α → Int) {K : PySem.W.Frag} {H : Hp} : ∀ {l : List α} {vs : List V}, Zps K H vs (l.map fun e => .int (g e)) → (l.map f).zip vs = l.map fun e => (f e, V.int (g e))
  | [], _, .nil => rfl
  | x :: s, _, .cons a b => by
    rw [zp_int a]
    show (f x, V.int (g x)) :: (s.map f).zip _ = _
    rw [zp_zipK f g b]
    rfl
theorem dm_of_z {K : PySem.W.Frag} {H : Hp} {v : V} {M : DM} (h : Zp K H v (modelZ M)) : ∃ p, v = .ref p ∧ DMAt H p M := by
  obtain ⟨p, vs, rfl, h1, _, h2⟩ := zp_dk h
  match vs, h2 with
  | [va, vb, vc], .cons ha (.cons hb (.cons hc .nil)) =>
    obtain ⟨a, us, rfl, a1, _, a2⟩ := zp_dt ha
    obtain ⟨b, ws, rfl, b1, _, b2⟩ := zp_dt hb
    obtain ⟨c, xs, rfl, c1, _, c2⟩ := zp_dk hc
    rw [zp_zip (fun e : (Int × Int) × Int => kCK e.1) (fun e => e.2) b2] at b1
    rw [zp_zipK (fun e : Int × Int => Sum.inl e.1) (fun e => e.2) c2] at c1
    exact ⟨p, rfl, a, b, c, _, h1, a1, ents_of a2, b1, c1⟩
theorem zps_map_int {K : PySem.W.Frag} {H : Hp} {α : Type} (g : α → Int) : ∀ l : List α, Zps K H (l.map fun e => V.int (g e)) (l.map fun e => .int (g e))
  | [] => .nil
  | _ :: l => .cons (.int _) (zps_map_int g l)
theorem zip_map {α β γ : Type} (f : α → β) (g : α → γ) : ∀ l : List α, (l.map f).zip (l.map g) = l.map fun e => (f e, g e)
  | [] => rfl
  | x :: l => congrArg ((f x, g x) :: ·) (zip_map f g l)
theorem ents_to {K : PySem.W.Frag} {G H : Hp} (m : ∀ b o, G b = some o → isTbl o = false → H b = some o) : ∀ {s : List ((Int × Int) × List Int)} {sd : List (List Key × V)}, Paired (entS G) sd s → ∃ vs, sd = (s.map fun x => kCK x.1).zip vs ∧ (s.map fun x => kCK x.1).length = vs.length ∧ Zps K H vs (s.map fun x => .lst (intsZ x.2))
  | _, _, .nil => ⟨[], rfl, rfl, .nil⟩
  | _, _, .cons (a := e) (b := x) h t => by
    obtain ⟨vs, h1, h2, h3⟩ := ents_to m t
    obtain ⟨e1, l, e2, e3⟩ := h
    refine ⟨e.2 :: vs, ?_, congrArg Nat.succ h2, .cons (by rw [e2]; exact .lst (m _ _ e3 rfl) (zps_of_ints _)) h3⟩
    show e :: _ = (kCK x.1, e.2) :: _
    rw [h1, ← e1]
    rfl
theorem z_of_dm {K : PySem.W.Frag} {G H : Hp} {p : Addr} {M : DM} (m : ∀ b o, G b = some o → isTbl o = false → H b = some o) (h : DMAt G p M) : Zp K H (.ref p) (modelZ M) := by
  obtain ⟨a, b, c, sd, h1, h2, h3, h4, h5⟩ := h.ex
  obtain ⟨vs, rfl, e2, e3⟩ := ents_to (K := K) m h3
  refine .dk (vs := [.ref a, .ref b, .ref c]) (m _ _ h1 rfl) rfl (.cons (.dt (m _ _ h2 rfl) e2 e3) (.cons (.dt (vs := M.n.map fun e => V.int e.2) ?_ (by rw [List.length_map, List.length_map]) (zps_map_int _ _)) (.cons (.dk (vs := M.v.map fun e => V.int e.2) ?_ (by rw [List.length_map, List.length_map]) (zps_map_int _ _)) .nil)))
  · rw [zip_map]
    exact m _ _ h4 rfl
  · rw [zip_map]
    exact m _ _ h5 rfl
/-! ### what an older promise settles -/
def ownP (G : Hp) : Addr → Own := fun x => if (G x).isSome = true then .set else .out
theorem ownP_at {G : Hp} {x : Addr} (g : G x ≠ none) : ownP G x = .set := if_pos (by cases e : G x with | none => exact absurd e g | some _ => rfl)
theorem ownP_set {G : Hp} {x : Addr} (h : ownP G x = .set) : G x ≠ none := by
  unfold ownP at h
  split at h
  · rename_i c
    exact fun e => by rw [e] at c; cases c
  · cases h
theorem ownP_no {G : Hp} {x : Addr} {o : Own} (h : ownP G x = o) : o = .set ∨ o = .out := by
  unfold ownP at h
  split at h <;> subst h <;> simp
theorem ret_set {K : PySem.W.Frag} {E0 H G H' : Hp} (nt : NtT E0 H) (g : Go (fun _ => False) E0 H G H') {v : V} {z : Z} (hz : ∀ H2, (∀ b o, G b = some o → isTbl o = false → H2 b = some o) → Zp K H2 v z) : Ret (frP K E0 H) (.set z) v H' := by
  have at_ : ∀ b o, G b = some o → isTbl o = false → vw (ownP G) H' (eqO .set) b = some o := fun b o e n => vw_at (g.inn b o e) n (.inr (decide_eq_true (ownP_at (by rw [e]; simp))))
  refine ⟨ownP G, ⟨fun b o e => at_ b o (g.up b o e) (nt.nt b o e), fun b o e _ n => g.keep b o e n, g.there, fun b o e h => .inl fun z => ownP_set h (g.new b ?_ z), fun b i h => ?_, fun b j h => ?_, fun b h => ?_, nt.tabs.ext fun b o e => g.keep b o e fun z => z⟩, hz _ at_⟩
  · have e : H b = some o := e
    rw [e]; simp
  · rcases ownP_no h with z | z <;> cases z
  · rcases ownP_no h with z | z <;> cases z
  · rcases ownP_no h with z | z <;> cases z
def spPartsN : Sp := fun vs H Q _ => ∃ (m : Addr) (M : DM) (st : Sta) (n : Nat) (H0 : Hp), vs = [.ref m] ∧ Ex H0 H ∧ DMAt H0 m M ∧ M.Is st ∧ DMB M n ∧ n ≤ 1000 ∧ st.snd.length ≤ 1000 ∧
  ∀ (p s1 D D2 : Addr) (q1 q2 q3 : List Addr) (H' : Hp), Go (fun _ => False) H0 H H0 H' → H p = none → H s1 = none → H D = none → H D2 = none → H' p = some (.lst [.ref s1, .ref D, .ref D2]) → H' s1 = some (.lst (q1.map V.ref)) → Rws H' q1 st.snd → H' D = some (.lst (q2.map V.ref)) → Rws H' q2 st.knb → H' D2 = some (.lst (q3.map V.ref)) → Rws H' q3 st.voi → Q (.ref p) H'
def rzSilent : RZs := fun zs k _ => zs = [] ∧ k (.set (modelZ .nil))
def rzAfterM : RZs := fun zs k _ => ∃ (M : DM) (e : Evt), zs = [modelZ M, thZ e] ∧ e.Ok ∧ (∀ k ∈ M.s.map (·.1), CkI k) ∧ (∀ k ∈ M.n.map (·.1), CkI k) ∧ M.s.length ≤ 500 ∧ M.n.length ≤ 500 ∧ M.v.length ≤ 500 ∧ (∀ x ∈ M.s, x.2.length ≤ 1000) ∧ k (.set (modelZ (M.after e)))
def rzBehindM : RZs := fun zs k _ => ∃ es : List Evt, zs = [modelZ .nil, trackZ es] ∧ es.length ≤ 400 ∧ (∀ e ∈ es, e.Ok) ∧ k (.set (modelZ (dmOf es)))
def partsZ (st : Sta) : Z := .lst [.lst (rwsZ st.snd), .lst (rwsZ st.knb), .lst (rwsZ st.voi)]
def rzPartsM : RZs := fun zs k _ => ∃ (M : DM) (st : Sta) (n : Nat), zs = [modelZ M] ∧ M.Is st ∧ DMB M n ∧ n ≤ 1000 ∧ st.snd.length ≤ 1000 ∧ k (.frs (partsZ st))
section
variable {P : Program} {w : World} {K : PySem.W.Frag} {mg : Str → Option Value} {base : Heap} {x : Str} {k : Nat}
theorem silent_z (D : Def P w K mg base x k spSilent) : Def P w K mg base x k (spZ K mg rzSilent) := D.imp fun vs H Q E ⟨E0, zs, kk, e, h0, nt, hz, ⟨e1, hk⟩, q, _⟩ => by
  subst e1
  cases hz
  exact ⟨E0, rfl, h0, fun p G H' g hp => q _ hk _ _ (ret_set nt g fun H2 m => z_of_dm m hp)⟩
theorem zps_th {H : Hp} {e : Evt} {us : List V} (hus : Zps K H us (e.th.map vZ)) : us = e.th := by
  cases e with
  | key b t c k f => cases hus with | cons h1 h => cases h with | cons h2 h => cases h with | cons h3 h => cases h with | cons h4 h => cases h; rw [zp_str h1, zp_int h2, zp_int h3, zp_int h4]; rfl
  | knob t c k f => cases hus with | cons h1 h => cases h with | cons h2 h => cases h with | cons h3 h => cases h with | cons h4 h => cases h; rw [zp_str h1, zp_int h2, zp_int h3, zp_int h4]; rfl
  | voice t c f => cases hus with | cons h1 h => cases h with | cons h2 h => cases h with | cons h3 h => cases h; rw [zp_str h1, zp_int h2, zp_int h3]; rfl
  | mark t s => cases hus with | cons h1 h => cases h with | cons h2 h => cases h; rw [zp_str h1, zp_str h2]; rfl
theorem zps_two {H : Hp} {vs : List V} {y z : Z} (h : Zps K H vs [y, z]) : ∃ v u, vs = [v, u] ∧ Zp K H v y ∧ Zp K H u z := by
  cases h with | cons a h => cases h with | cons b h => cases h; exact ⟨_, _, rfl, a, b⟩
theorem afterM_z (D : Def P w K mg base x k (spAfterMK K)) : Def P w K mg base x k (spZ K mg rzAfterM) := D.imp fun vs H Q E ⟨E0, zs, kk, ed, h0, nt, hz, ⟨M, e, e1, eo, b1, b2, b3, b4, b5, b6, hk⟩, q, _⟩ => by
  subst e1
  obtain ⟨v, u, rfl, hv, hu⟩ := zps_two hz
  · obtain ⟨p, rfl, hp⟩ := dm_of_z hv
    obtain ⟨t, us, rfl, ht, hus⟩ := zp_tup hu
    have := zps_th hus
    subst this
    exact ⟨p, t, M, e, E0, rfl, h0, hp, ht, eo, b1, b2, b3, b4, b5, b6, fun p G H' g hp => q _ hk _ _ (ret_set nt g fun H2 m => z_of_dm m hp)⟩
theorem behindM_z (D : Def P w K mg base x k (spBehindK K)) : Def P w K mg base x k (spZ K mg rzBehindM) := D.imp fun vs H Q E ⟨E0, zs, kk, e, h0, nt, hz, ⟨es, e1, hl, ho, hk⟩, q, _⟩ => by
  subst e1
  obtain ⟨v, u, rfl, hv, hu⟩ := zps_two hz
  · obtain ⟨p, rfl, hp⟩ := dm_of_z hv
    obtain ⟨r, ps, rfl, h1, h2⟩ := track_of hu
    exact ⟨p, r, ps, es, E0, rfl, h0, hp, h1, h2, hl, ho, fun p G H' g hp => q _ hk _ _ (ret_set nt g fun H2 m => z_of_dm m hp)⟩
theorem rws_zps {H H2 : Hp} (m : ∀ b xs, H b = some (.tup xs) → H2 b = some (.tup xs)) : ∀ {qs : List Addr} {rs : List (List Int)}, Rws H qs rs → Zps K H2 (qs.map V.ref) (rwsZ rs)
  | _, _, .nil => .nil
  | _, _, .cons h t => .cons (.tup (m _ _ h) (zps_of_ints _)) (rws_zps m t)
theorem partsM_z (D : Def P w K mg base x k spPartsN) : Def P w K mg base x k (spZ K mg rzPartsM) := D.imp fun vs H Q E ⟨E0, zs, kk, ed, h0, nt, hz, ⟨M, st, n, e1, I, B, hn, hs, hk⟩, q, _⟩ => by
  subst e1
  obtain ⟨v, rfl, hv⟩ := zps_one hz
  obtain ⟨p, rfl, hp⟩ := dm_of_z hv
  refine ⟨p, M, st, n, E0, rfl, h0, hp, I, B, hn, hs, fun p s1 D D2 q1 q2 q3 H' g np n1 n2 n3 hp h1 r1 h2 r2 h3 r3 => q _ hk _ _ (ret_frs nt h0 g ?_)⟩
  have m : ∀ b xs, H' b = some (.tup xs) → vw (newA E0 H) H' (eqO (.tmp 0)) b = some (.tup xs) := fun b xs e => vw_at e rfl (.inl rfl)
  exact .lst (new_at np hp rfl) (.cons (.lst (new_at n1 h1 rfl) (rws_zps m r1)) (.cons (.lst (new_at n2 h2 rfl) (rws_zps m r2)) (.cons (.lst (new_at n3 h3 rfl) (rws_zps m r3)) .nil)))
end
end Rt


namespace Rt
open PySem PySem.Spec PyProof.Rows L2
/-! ### == and != by a class's own __eq__ -/
section
variable {prog : Program} {w : World} {A : Around} {E : Value → Shared → Prop} {s : Shared} {K : PySem.W.Frag} {x C L f : Addr} {h₀ : Heap} {m : Str → Option Value} {ox : Obj} {od : Option Obj} {b tb : Value}
theorem ne_bound {M : Model} {args : List Value} {Q : Option Value → Shared → Prop} (X : K.In s.heap) (I : PySem.W.InstAt s.heap x ox C od) (hs : PySem.W.findIn K (.ref C) "__ne__" = some (some (.builtin "object.__ne__")))
    (h : wpAny M A (call (.builtin "object.__ne__") (.ref x :: args)) (fun v => Q (some v)) E s) : wpAny M A (callSpecialIfBound? (.ref x) "__ne__" args) Q E s := by
  have go : wpAny M A (call (.builtin "object.__ne__") ([.ref x] ++ args) >>= fun v => pure (some v)) Q E s := wpAny_bind (wpAny_mono h (fun v s' q => wpAny_pure q) fun _ _ q => q)
  have bd : bindSpecial (.builtin "object.__ne__") (.ref x) = pure (.builtin "object.__ne__", [.ref x]) := PySem.F.cmp_object.ne.bind _
  simp only [callSpecialIfBound?, bindSpecialIfBound?]
  refine wpAny_holding (wpAny_bind (wpAny_bind (wpAny_bind (I.type.here ((PySem.W.looks_findIn X hs).here (wpAny_bind (wpAny_askSetting (wpAny_ite ?_))))))))
  simp only [bd]
  split
  · exact wpAny_bind (wpAny_pure (wpAny_pure go))
  · exact wpAny_tryCatch (wpAny_bind (wpAny_pure (wpAny_pure go)))
theorem ne_entry {Q : Fin → Shared → Prop} (hu : A.units < cLine) (X : K.In s.heap) (I : PySem.W.InstAt s.heap x ox C od) (hs : PySem.W.findIn K (.ref C) "__eq__" = some (some (.ref f))) (hf : PySem.W.isFn K (.ref f) = true)
    (h : wpAny (model prog w) A (call (.ref f) [.ref x, b]) (fun v s' => ∃ c, v = .bool c ∧ Q (.done (.ret (.bool (!c)))) s') E s) : wpAny (model prog w) A (Builtin.«object.__ne__» ⟨[.ref x, b], []⟩) Q E s := by
  unfold Builtin.«object.__ne__»
  repeat (first
    | with_reducible refine wpAny_cRoomFor hu ?_
    | (refine wpAny_bind (m := callSpecialIfBound? (.ref x) (Str.ofString "__eq__") [b]) (PySem.W.ifBound_K X I hs hf (wpAny_mono h (fun r s' hr => by
          obtain ⟨c, rfl, hq⟩ := hr
          repeat (first | exact hq | exact wpAny_pure hq | exact wpAny_truthy_bool hq | (refine wpAny_bind (m := truthy (.bool _)) (wpAny_truthy_bool ?_)) | wp_step)) fun _ _ e => e)))
    | wp_step)
theorem ne_own {Q : Value → Shared → Prop} (hu : A.units + 1 < cLine) (F : PyProof.Rows.Fr h₀ L s.heap m) (X₀ : K.In h₀) (I : PySem.W.InstAt s.heap x ox C od) (hb : PySem.W.Looks (model prog w) s.heap (typeOf b) tb) (hn : PySem.W.notFirst K C tb = true)
    (hs : PySem.W.findIn K (.ref C) "__eq__" = some (some (.ref f))) (hf : PySem.W.isFn K (.ref f) = true) (hne : PySem.W.findIn K (.ref C) "__ne__" = some (some (.builtin "object.__ne__"))) (ho : PySem.W.subIn K (.ref C) (.type "object") = some true)
    (h : wpAny (model prog w) A.in1 (call (.ref f) [.ref x, b]) (fun v s' => ∃ c, v = .bool c ∧ Q (.bool (!c)) s') E s) : wpAny (model prog w) A (richCompare .NotEq (.ref x) b) Q E s := by
  have X := X₀.keeps F.keep
  have one : wpAny (model prog w) A (tryCompare (.ref x) "__ne__" b) (fun r s' => ∃ v, r = some v ∧ Q v s') E s := by
    unfold tryCompare
    refine wpAny_bind (ne_bound X I hne (wpAny_call (codeAny_call_builtin PySem.F.cmp_object.ne.plain PySem.F.cmpEntry_ne ?_)))
    refine PySem.W.check_slot PySem.F.cmpKind_ne PySem.F.cmpSplit_ne (I.type.andThen (PySem.W.looks_subIn X ho)) (PySem.F.cmpArgs_ne _ _) ?_
    refine ne_entry (A := A.in1) hu X I hs hf (wpAny_mono h (fun v s' hv => ?_) fun _ _ e => e)
    obtain ⟨c, rfl, hq⟩ := hv
    first | exact ⟨c, rfl, wpAny_pure ⟨_, rfl, hq⟩⟩ | exact ⟨c, rfl, wpAny_pure (wpAny_pure ⟨_, rfl, hq⟩)⟩
  have fin : ∀ {k : Option Value → Sem Value}, (∀ v, k (some v) = pure v) → wpAny (model prog w) A (tryCompare (.ref x) "__ne__" b >>= k) Q E s := fun hk => wpAny_bind (wpAny_mono one (fun r s' z => by
    obtain ⟨v, rfl, hq⟩ := z
    rw [hk]
    exact wpAny_pure hq) fun _ _ e => e)
  unfold richCompare
  simp only [oneThing_ref]
  refine wpAny_holding (wpAny_bind (wpAny_cRoomFor (Nat.lt_of_succ_lt hu) (wpAny_bind (I.type.here (wpAny_bind (hb.here ?_))))))
  split
  · rename_i q
    have sb : PySem.W.subIn K tb (.ref C) = some false := (Bool.or_eq_true_iff.mp hn).elim (fun e => by rw [beq_iff_eq.mp e] at q; simp at q) fun e => beq_iff_eq.mp e
    refine wpAny_bind ((PySem.W.looks_subIn X sb).here ?_)
    simp only [Bool.false_eq_true, if_false]
    exact fin fun _ => rfl
  · refine wpAny_bind (wpAny_pure ?_)
    simp only [Bool.false_eq_true, if_false]
    exact fin fun _ => rfl
end
/-- == (neg: !=) of an instance of the class at C and another one, or a number -/
def rEqO (C : Addr) (sp : Sp) (neg : Bool) : R2 := fun x y H Q => ∃ (a dx : Addr) (fs : List (Str × V)), x = .ref a ∧ H a = some (.ins C dx fs) ∧ ((∃ i : Int, y = .int i) ∨ ∃ (b dy : Addr) (gs : List (Str × V)), y = .ref b ∧ H b = some (.ins C dy gs)) ∧
  sp [x, y] H (fun v H' => ∃ c : Bool, v = .bl c ∧ Q (.bl (neg != c)) H') E0
structure EqT (P : Program) (w : World) (K : PySem.W.Frag) (mg : Str → Option Value) (base : Heap) (k : Nat) (C : Addr) (sp : Sp) : Prop where
  ex : ∃ (f : Addr) (fd : FuncData) (ps : List Str), PySem.W.findIn K (.ref C) "__eq__" = some (some (.ref f)) ∧ PySem.W.isFn K (.ref f) = true ∧ FnOk P w K mg base CX0 k f fd ps sp ∧ Binds K fd ps [] ∧ PySem.W.findIn K (.ref C) "__ne__" = some (some (.builtin "object.__ne__")) ∧ PySem.W.subIn K (.ref C) (.type "object") = some true
section
variable {X : Cx} {k : Nat} {C : Addr} {sp : Sp}
theorem int_nf (K : PySem.W.Frag) (C : Addr) : PySem.W.notFirst K C (.type "int") = true := by
  unfold PySem.W.notFirst
  rfl
theorem op_eqO (D : EqT X.prog X.w X.K X.mg X.base k C sp) (hr : Room (k + 1) X.A) : OpR X (compareOp .Eq) (rEqO C sp false) := by
  obtain ⟨f, fd, ps, hs, hf, F, hb, _, _⟩ := D.ex
  intro pins s σ H x y v u Q I rx ry h
  obtain ⟨a, dx, fs, rfl, ha, hy, hsp⟩ := h
  cases rx
  obtain ⟨mA, J, _⟩ := ins_get I.hok ha
  obtain ⟨od, J, _⟩ := J.look
  obtain ⟨m, hF⟩ := I.fr
  have tl : ∃ tb, PySem.W.Looks (model X.prog X.w) s.heap (typeOf u) tb ∧ PySem.W.notFirst X.K C tb = true := by
    rcases hy with ⟨i, rfl⟩ | ⟨b, dy, gs, rfl, hb⟩
    · obtain ⟨t, rfl⟩ : ∃ t, u = Value.int i t := ry
      exact ⟨.type "int", PySem.W.Looks.of_pure rfl, int_nf _ _⟩
    · cases ry
      obtain ⟨mB, J', _⟩ := ins_get I.hok hb
      obtain ⟨od', J', _⟩ := J'.look
      exact ⟨.ref C, J'.type, by simp [PySem.W.notFirst]⟩
  obtain ⟨tb, t1, t2⟩ := tl
  show wpAny (model X.prog X.w) X.A (richCompare .Eq (.ref a) u) (EP X pins σ Q) X.xe s
  refine PySem.W.cmp_K (op := .Eq) (tb := tb) hr.units0 hF I.ok.mod.kin J t1 t2 hs hf ?_
  have go := run_fn (us := [.ref a, u]) (vs := [.ref a, y]) F (hr.mono (Nat.le_succ k)) hb .nil pass0 I (.cons rfl (.cons ry .nil)) hsp
  refine wpAny_mono go (fun r s' z => ?_) fun _ _ e => e
  obtain ⟨v', H', I', rv, c, rfl, q⟩ := z
  cases rv
  exact ⟨.bl c, H', I', rfl, by simpa using q⟩
theorem op_neO (D : EqT X.prog X.w X.K X.mg X.base k C sp) (hr : Room (k + 1) X.A) : OpR X (compareOp .NotEq) (rEqO C sp true) := by
  obtain ⟨f, fd, ps, hs, hf, F, hb, hne, ho⟩ := D.ex
  intro pins s σ H x y v u Q I rx ry h
  obtain ⟨a, dx, fs, rfl, ha, hy, hsp⟩ := h
  cases rx
  obtain ⟨mA, J, _⟩ := ins_get I.hok ha
  obtain ⟨od, J, _⟩ := J.look
  obtain ⟨m, hF⟩ := I.fr
  have tl : ∃ tb, PySem.W.Looks (model X.prog X.w) s.heap (typeOf u) tb ∧ PySem.W.notFirst X.K C tb = true := by
    rcases hy with ⟨i, rfl⟩ | ⟨b, dy, gs, rfl, hb⟩
    · obtain ⟨t, rfl⟩ : ∃ t, u = Value.int i t := ry
      exact ⟨.type "int", PySem.W.Looks.of_pure rfl, int_nf _ _⟩
    · cases ry
      obtain ⟨mB, J', _⟩ := ins_get I.hok hb
      obtain ⟨od', J', _⟩ := J'.look
      exact ⟨.ref C, J'.type, by simp [PySem.W.notFirst]⟩
  obtain ⟨tb, t1, t2⟩ := tl
  show wpAny (model X.prog X.w) X.A (richCompare .NotEq (.ref a) u) (EP X pins σ Q) X.xe s
  refine ne_own (tb := tb) (by have := hr.units; omega) hF I.ok.mod.kin J t1 t2 hs hf hne ho ?_
  have go := call_in1 (E' := X.xe) (us := [.ref a, u]) (vs := [.ref a, y]) F hr hb I (.cons rfl (.cons ry .nil)) hsp
  refine wpAny_mono go (fun r s' z => ?_) fun _ _ e => e
  obtain ⟨v', H', I', rv, c, rfl, q⟩ := z
  cases rv
  exact ⟨c, rfl, .bl (!c), H', I', rfl, by simpa using q⟩
end
end Rt

set_option autoImplicit false
namespace Rt
open PySem PySem.Spec PyProof.Rows L2 RZ TL LamX
variable [TabsT]
/-! ### objects: isinstance, ==, len by the class's own -/
/-- what isinstance asks of a class of the text -/
structure IsiT (K : PySem.W.Frag) (C : Addr) : Prop where
  cl : Cls K C
  ca : PySem.W.findIn K (.ref C) "__class__" = some (some (.builtin "object.__class__"))
  cg : PySem.W.specialIn K (.builtin "object.__class__") "__get__" = some (some (.builtin "getset_descriptor.__get__"))
  ct : PySem.W.takesIn K (.builtin "object.__class__") = some true
  mo : PySem.W.mroIn K C (.type "object") = some true
  ki : PySem.W.kitOne K (.ref C) (.ref C) = some true
  kn : PySem.W.kitOne K (.type "int") (.ref C) = some false
section
variable {fr : Fr} {F F' : Hp} {Γ : G} {T A : List (V × B)} {σ : L2.St} {H H' : Hp} {S S' : Addr → Own} {mg : Str → Option Value}
def zIsiC (C : Addr) (z : ZE) : ZE := fun Γ k => z Γ fun b => match b.z with
  | some (.obj D _ _) => D = C ∧ k (.set (.bl true))
  | some (.int _) => k (.set (.bl false))
  | _ => False
theorem z_isiC {C : Addr} (h : IsiT fr.K C) {t : TE} {z : ZE} (he : SE fr t z) : SE fr (tCB (rIsi fr.K) (tCons t (tCons (tC (.ref C)) tNil))) (zIsiC C z) := by
  intro F Γ T σ H Q k R kq q
  refine he F Γ T σ H _ _ R (fun b hb v H1 R1 => ?_) q
  split at hb
  · rename_i D ns l e
    obtain ⟨rfl, hb⟩ := hb
    obtain ⟨a, dx, vs, rfl, h1, _, _, _⟩ := zp_obj (R1.zp (j := 0) rfl e)
    exact ⟨_, _, _, _, true, rfl, .own _, .base (.ins h1 h.cl h.ca h.cg h.ct h.mo), h.ki, kq _ hb _ _ (R1.sc fun _ => .bl _)⟩
  · rename_i i e
    have := zp_int (R1.zp (j := 0) rfl e)
    subst this
    exact ⟨_, _, _, _, false, rfl, .own _, .base (.int _), h.kn, kq _ hb _ _ (R1.sc fun _ => .bl _)⟩
  · exact hb.elim
def zEqO (C : Addr) (R : RZs) (neg : Bool) : B → B → (B → Prop) → Prop := fun b1 b2 k => (∃ ns l, b1.z = some (.obj C ns l)) ∧ ((∃ i, b2.z = some (.int i)) ∨ ∃ ns l, b2.z = some (.obj C ns l)) ∧
  zrd [b1, b2] fun zs => R zs (resB fun b => match b with
    | .set (.bl c) => k (.set (.bl (neg != c)))
    | _ => False) (fun _ => False)
theorem s_eqO {C : Addr} {R : RZs} {neg : Bool} : SO2 fr (rEqO C (spZ fr.K mg R) neg) (zEqO C R neg) := by
  intro F Γ T σ H Q k v1 v2 b1 b2 R0 kq h
  obtain ⟨⟨ns, l, e1⟩, e2, h⟩ := h
  obtain ⟨a, dx, vs, rfl, h1, _, _, _⟩ := zp_obj (R0.zp (j := 0) rfl e1)
  refine ⟨a, dx, _, rfl, h1, ?_, ?_⟩
  · rcases e2 with ⟨i, e2⟩ | ⟨ns', l', e2⟩
    · exact .inl ⟨i, zp_int (R0.zp (j := 1) rfl e2)⟩
    · obtain ⟨b, dy, ws, rfl, h2, _, _, _⟩ := zp_obj (R0.zp (j := 1) rfl e2)
      exact .inr ⟨b, dy, _, rfl, h2⟩
  · obtain ⟨S, R1⟩ := R0
    obtain ⟨zs, hk, hz⟩ := zrd_ok R1 (A1 := []) (A2 := [(V.ref a, b1), (v2, b2)]) rfl h
    refine ⟨vw S H allO, zs, _, fun _ => False, vw_ex, ⟨noTb_vw, R1.go.tabs⟩, hz, hk, fun b hb v H' ⟨S', g', hp⟩ => ?_, fun x h => h.elim⟩
    obtain ⟨c, h1, h2⟩ := P_res (S := S) (n := T.length) g' hp hb
    split at h1
    · rename_i c'
      have e : v = .bl c' := zp_bl (h2 : Zp _ _ _ _)
      subst e
      have R2 : Rel fr F Γ (T ++ [(V.bl c', B.set (.bl c'))]) σ H' := ⟨_, R1.call (b := b) g' h2⟩
      exact ⟨c', rfl, kq _ h1 _ _ (R2.sc fun _ => .bl _)⟩
    · exact h1.elim
def zLenO (C : Addr) (R : RZs) : List B → (B → Prop) → Prop := fun bs k => match bs with
  | [b] => (∃ ns l, b.z = some (.obj C ns l)) ∧ zrd [b] fun zs => R zs (resB fun c => match c with
    | .set (.int n) => (0 ≤ n ∧ n < 2 ^ 63) ∧ k (.set (.int n))
    | _ => False) (fun _ => False)
  | _ => False
theorem s_lenO {C : Addr} {R : RZs} : SCB fr (rLenO C (spZ fr.K mg R)) (zLenO C R) := by
  intro F Γ T A σ H Q k R0 kq h
  unfold zLenO at h
  split at h
  · rename_i b e
    obtain ⟨v, rfl⟩ := one_arg e.symm
    obtain ⟨⟨ns, l, e1⟩, h⟩ := h
    obtain ⟨a, dx, vs, rfl, h1, _, _, _⟩ := zp_obj (R0.zp (j := 0) rfl e1)
    obtain ⟨S, R1⟩ := R0
    obtain ⟨zs, hk, hz⟩ := zrd_ok R1 (A1 := []) (A2 := [(V.ref a, b)]) rfl h
    refine ⟨a, dx, _, rfl, h1, vw S H allO, zs, _, fun _ => False, vw_ex, ⟨noTb_vw, R1.go.tabs⟩, hz, hk, fun b' hb v H' ⟨S', g', hp⟩ => ?_, fun x h => h.elim⟩
    obtain ⟨c, h1, h2⟩ := P_res (S := S) (n := T.length) g' hp hb
    split at h1
    · rename_i n
      have e : v = .int n := zp_int (h2 : Zp _ _ _ _)
      subst e
      have R2 : Rel fr F Γ (T ++ [(V.int n, B.set (.int n))]) σ H' := ⟨_, R1.call (b := b') g' h2⟩
      exact ⟨n, rfl, h1.1.1, h1.1.2, kq _ h1.2 _ _ (R2.sc fun _ => .int _)⟩
    · exact h1.elim
  · exact h.elim
/-- a part of a list of one's own, which is settled -/
def zIxO (i : Nat) (ze : ZE) : ZE := fun Γ k => match Γ[i]? with
  | some (some (.own (.lst l))) => ze Γ fun b => match b with
    | .set (.int j) => ∃ z, atI l j = some z ∧ k (.set z)
    | _ => False
  | _ => False
theorem z_ixO (i : Nat) {te : TE} {ze : ZE} (he : SE fr te ze) : SE fr (tOp (rIxL fr.K) (tVar i) te) (zIxO i ze) := by
  intro F Γ T σ H Q k R0 kq q
  unfold zIxO at q
  split at q
  · rename_i l e
    obtain ⟨S0, R00⟩ := R0
    obtain ⟨v, hv, _⟩ := R00.sl i _ e
    refine ⟨v, hv, ?_⟩
    have R00' : RelS fr F Γ (T ++ []) σ H S0 := by rw [List.append_nil]; exact R00
    have R1 : Rel fr F Γ (T ++ [(v, B.dead)]) σ H := ⟨S0, R00'.same (b := .dead) True.intro⟩
    refine he F Γ _ σ H _ _ R1 (fun b hb w H1 R2 => ?_) q
    split at hb
    · rename_i j
      obtain ⟨z, hz, hk⟩ := hb
      have e2 := zp_int (Rel.zp (T := T ++ [(v, B.dead)]) (A := [(w, B.set (.int j))]) R2 (j := 0) rfl rfl)
      obtain ⟨S, R2⟩ := R2
      obtain ⟨v', hv', hp⟩ := R2.sl i _ e
      rw [hv] at hv'
      cases hv'
      obtain ⟨a, vs, rfl, s, h1, h2⟩ : OwnP fr.K S H1 (.slot i) v (.lst l) := hp
      obtain ⟨u, h3, h4⟩ := zps_atI h2 hz
      rw [List.append_assoc] at R2
      exact ⟨a, vs, j, u, rfl, e2, SqL.of h1, h3, kq _ hk _ H1 ⟨S, R2.same (b := .set z) h4⟩⟩
    · exact hb.elim
  · exact q.elim
/-- a, b = x, y, both staying one's own -/
def zParK (i j : Nat) (z : ZA) : ZS := fun D Γ => z Γ fun bs => match bs with
  | [b, c] => b.brw = false ∧ c.brw = false ∧ D.nx ((Γ.set i (some b)).set j (some c))
  | _ => False
theorem z_parK {i j : Nat} {t : TA} {z : ZA} (hij : i ≠ j) (h : SA fr 2 t z) : SS fr (tPar i j t) (zParK i j z) := by
  intro F Γ σ H zD D R hD q
  refine h F Γ [] σ H _ _ R (fun bs hb A H1 e1 e2 R1 => ?_) q
  unfold zParK at q
  split at hb
  · rename_i b c
    obtain ⟨v, w, rfl⟩ := two_args e1.symm
    refine ⟨v, w, rfl, ?_⟩
    have R2 := Rel.store (T := [(v, b)]) R1 j hb.2.1
    have R3 := Rel.store (T := []) R2 i hb.1
    rw [List.set_comm _ _ (Ne.symm hij), List.set_comm _ _ (Ne.symm hij)] at R3
    exact hD.nx _ _ _ R3 hb.2.2
  · exact hb.elim
end
end Rt
namespace Rt
open PySem PySem.Spec PyProof.Rows L2 RZ TL LamX
variable [TabsT]
/-! ### a stand's == -/
theorem eqd_rwss {a b : List (List Int)} (ha : ∀ r ∈ a, r.length ≤ 100000) (hb : ∀ r ∈ b, r.length ≤ 100000) (la : a.length ≤ 100000) (lb : b.length ≤ 100000) : EqD (.lst (rwsZ a)) (.lst (rwsZ b)) (decide (a = b)) := by
  refine ⟨(rows_pl ha la).1, (rows_pl hb lb).1, Nat.le_trans (rows_pl ha la).2 (by decide), Nat.le_trans (rows_pl hb lb).2 (by decide), ?_⟩
  have key : ∀ a b : List (List Int), PyData.eqvAll (Z.pys (rwsZ a)) (Z.pys (rwsZ b)) = decide (a = b) := by
    intro a
    induction a with
    | nil => intro b; cases b <;> simp [rwsZ, Z.pys, PyData.eqvAll]
    | cons r a ih =>
      intro b
      cases b with
      | nil => simp [rwsZ, Z.pys, PyData.eqvAll]
      | cons q b =>
        have e1 : Z.pys (rwsZ (r :: a)) = .tuple (Z.pys (intsZ r)) :: Z.pys (rwsZ a) := rfl
        have e2 : Z.pys (rwsZ (q :: b)) = .tuple (Z.pys (intsZ q)) :: Z.pys (rwsZ b) := rfl
        rw [e1, e2]
        simp only [PyData.eqvAll]
        rw [pys_ints, pys_ints, ih b, eqv_tup]
        by_cases h : r = q <;> by_cases h2 : a = b <;> simp [h, h2]
  show PyData.eqv (.list (Z.pys (rwsZ a))) (.list (Z.pys (rwsZ b))) = _
  rw [PyData.eqv]
  exact key a b
def eqSta (s t : Sta) : Bool := decide (s.snd = t.snd) && (decide (s.knb = t.knb) && decide (s.voi = t.voi))
/-- bounds for comparing -/
structure Sta.Sm (s : Sta) : Prop where
  r1 : ∀ r ∈ s.snd, r.length ≤ 100000
  r2 : ∀ r ∈ s.knb, r.length ≤ 100000
  r3 : ∀ r ∈ s.voi, r.length ≤ 100000
  l1 : s.snd.length ≤ 100000
  l2 : s.knb.length ≤ 100000
  l3 : s.voi.length ≤ 100000
theorem Sta.Ok.sm {s : Sta} {n : Nat} (h : s.Ok n) (hn : n ≤ 100000) : s.Sm := ⟨fun r hr => by rw [(h.b1 r hr).1]; decide, fun r hr => by rw [(h.b2 r hr).1]; decide, fun r hr => by rw [(h.b3 r hr).1]; decide, Nat.le_trans h.l1 hn, Nat.le_trans h.l2 hn, Nat.le_trans h.l3 hn⟩
theorem parts_pl {s : Sta} (h : s.Sm) : (partsZ s).pl = true ∧ (partsZ s).dep ≤ 3 := by
  have a := rows_pl h.r1 h.l1
  have b := rows_pl h.r2 h.l2
  have c := rows_pl h.r3 h.l3
  refine ⟨?_, ?_⟩
  · show (decide (3 ≤ 100000) && ((Z.lst (rwsZ s.snd)).pl && ((Z.lst (rwsZ s.knb)).pl && ((Z.lst (rwsZ s.voi)).pl && true)))) = true
    rw [a.1, b.1, c.1]
    rfl
  · show max (Z.lst (rwsZ s.snd)).dep (max (Z.lst (rwsZ s.knb)).dep (max (Z.lst (rwsZ s.voi)).dep 0)) + 1 ≤ 3
    omega
theorem eqd_parts {s t : Sta} (hs : s.Sm) (ht : t.Sm) : EqD (partsZ s) (partsZ t) (eqSta s t) := by
  refine ⟨(parts_pl hs).1, (parts_pl ht).1, Nat.le_trans (parts_pl hs).2 (by decide), Nat.le_trans (parts_pl ht).2 (by decide), ?_⟩
  have e1 := (eqd_rwss hs.r1 ht.r1 hs.l1 ht.l1).e
  have e2 := (eqd_rwss hs.r2 ht.r2 hs.l2 ht.l2).e
  have e3 := (eqd_rwss hs.r3 ht.r3 hs.l3 ht.l3).e
  show PyData.eqv (.list [(Z.lst (rwsZ s.snd)).py, (Z.lst (rwsZ s.knb)).py, (Z.lst (rwsZ s.voi)).py]) (.list [(Z.lst (rwsZ t.snd)).py, (Z.lst (rwsZ t.knb)).py, (Z.lst (rwsZ t.voi)).py]) = _
  rw [PyData.eqv]
  simp only [PyData.eqvAll]
  rw [e1, e2, e3]
  unfold eqSta
  simp
def rzStaEq (C : Addr) : RZs := fun zs k _ => (∃ s t : Sta, zs = [staZ C s, staZ C t] ∧ s.Sm ∧ t.Sm ∧ k (.set (.bl (eqSta s t)))) ∨ ∃ (s : Sta) (i : Int), zs = [staZ C s, .int i] ∧ k (.set (.bl false))
def rzStaLen (C : Addr) : RZs := fun zs k _ => ∃ s : Sta, zs = [staZ C s] ∧ k (.set (.int (s.snd.length : Nat)))
end Rt

set_option autoImplicit false
namespace Rt
open PySem PySem.Spec PyProof.Rows L2 RZ TL LamX
variable [TabsT]
/-! ### lists of lists of one's own -/
theorem cells_mem {oa : Option Addr} {as : List (Option Addr)} {a : Addr} (h : oa ∈ as) (e : oa = some a) : a ∈ cells as := List.mem_filterMap.mpr ⟨oa, h, e⟩
theorem ChPs.turn {K : PySem.W.Frag} {S : Addr → Own} {H : Hp} {me : Own} : ∀ {vs : List V} {as : List (Option Addr)} {cs : List Ch} {n : Nat} {zs : List Z}, ChPs K S H me vs as cs → cs[n]? = some (.l zs) → (cells as).Nodup →
    ∃ a us, vs[n]? = some (.ref a) ∧ a ∈ cells as ∧ S a = me ∧ H a = some (.lst us) ∧ Zps K (vw S H (eqO .set)) us zs ∧
      ∀ us' zs', Le (vw S H (eqO .set)) (vw S (L2.upd H a (.lst us')) (eqO .set)) → Zps K (vw S (L2.upd H a (.lst us')) (eqO .set)) us' zs' → ChPs K S (L2.upd H a (.lst us')) me vs as (cs.set n (.l zs'))
  | [], [], [], n, zs, _, e, _ => by simp at e
  | v :: vs, oa :: as, c :: cs, 0, zs, ⟨h, r⟩, e, nd => by
    have e : c = .l zs := by simpa using e
    subst e
    obtain ⟨a, us, e1, rfl, s, h1, h2⟩ := h
    rw [cells_cons, e1] at nd
    have nd := List.nodup_cons.mp nd
    exact ⟨a, us, rfl, by rw [cells_cons, e1]; exact .head _, s, h1, h2, fun us' zs' m hz => ⟨⟨a, us', e1, rfl, s, upd_same, hz⟩, ChPs.upd m (cells_no nd.1) r⟩⟩
  | v :: vs, oa :: as, c :: cs, n + 1, zs, ⟨h, r⟩, e, nd => by
    have nd' : (cells as).Nodup := by
      rw [cells_cons] at nd
      cases oa with
      | none => exact nd
      | some y => exact (List.nodup_cons.mp nd).2
    obtain ⟨a, us, h1, h2, h3, h4, h5, h6⟩ := ChPs.turn (n := n) r (by simpa using e) nd'
    have ne : oa ≠ some a := fun z => by
      rw [cells_cons, z] at nd
      exact (List.nodup_cons.mp nd).1 h2
    refine ⟨a, us, by simpa using h1, ?_, h3, h4, h5, fun us' zs' m hz => ⟨h.upd m ne, h6 us' zs' m hz⟩⟩
    rw [cells_cons]
    cases oa with
    | none => exact h2
    | some y => exact .tail _ h2
  | [], [], _ :: _, n, zs, h, _, _ => h.elim
  | [], _ :: _, cs, n, zs, h, _, _ => by cases cs <;> exact h.elim
  | _ :: _, [], cs, n, zs, h, _, _ => by cases cs <;> exact h.elim
  | _ :: _, _ :: _, [], n, zs, h, _, _ => h.elim
section
variable {fr : Fr} {F F' : Hp} {Γ : G} {T A : List (V × B)} {σ : L2.St} {H H' : Hp} {S S' : Addr → Own} {mg : Str → Option Value}
/-- a list in a slot's list is turned -/
theorem RelS.turn2 (R : RelS fr F Γ [] σ H S) {i n : Nat} {cs : List Ch} {zs : List Z} (e : Γ[i]? = some (some (.two (.l cs)))) (hn : cs[n]? = some (.l zs)) :
    ∃ p vs a us, σ[i]? = some (some (.ref p)) ∧ H p = some (.lst vs) ∧ vs[n]? = some (.ref a) ∧ H a = some (.lst us) ∧ Zps fr.K (vw S H (eqO .set)) us zs ∧
      ∀ us' zs', (Le (vw S H (eqO .set)) (vw S (L2.upd H a (.lst us')) (eqO .set)) → Zps fr.K (vw S (L2.upd H a (.lst us')) (eqO .set)) us' zs') → Rel fr F (Γ.set i (some (.two (.l (cs.set n (.l zs')))))) [] σ (L2.upd H a (.lst us')) := by
  obtain ⟨w, hw, hp⟩ := R.sl i _ e
  obtain ⟨p, vs, as, rfl, sp, hr, hc, nd⟩ := hp
  have hr : H p = some (.lst vs) := hr
  have hc : ChPs fr.K S H (.slot i) vs as cs := hc
  have nd' := List.nodup_cons.mp nd
  obtain ⟨a, us, h1, h2, h3, h4, h5, h6⟩ := hc.turn hn nd'.2
  have ne : p ≠ a := fun z => nd'.1 (z ▸ h2)
  refine ⟨p, vs, a, us, hw, hr, h1, h4, h5, fun us' zs' hz => ?_⟩
  refine RelS.two R hw (List.getElem?_eq_some_iff.mp e).1 h4 rfl rfl (fun c q z => by cases z) h3 fun m => ?_
  exact ⟨p, vs, as, rfl, sp, (upd_ne ne).trans hr, h6 us' zs' m (hz m), nd⟩
theorem Rel.none (R : RelS fr F Γ (T ++ A) σ H S) : RelS fr F Γ [] σ H S := ⟨R.go, R.f, R.len, R.sl, fun j v b e => by simp at e, R.nb⟩
theorem ChPs.len {K : PySem.W.Frag} {S : Addr → Own} {H : Hp} {me : Own} : ∀ {vs : List V} {as : List (Option Addr)} {cs : List Ch}, ChPs K S H me vs as cs → vs.length = cs.length
  | [], [], [], _ => rfl
  | _ :: _, _ :: _, _ :: _, ⟨_, r⟩ => congrArg Nat.succ (ChPs.len r)
  | [], [], _ :: _, h => h.elim
  | [], _ :: _, cs, h => by cases cs <;> exact h.elim
  | _ :: _, [], cs, h => by cases cs <;> exact h.elim
  | _ :: _, _ :: _, [], h => h.elim
theorem RelS.two_len (R : RelS fr F Γ [] σ H S) {i : Nat} {cs : List Ch} (e : Γ[i]? = some (some (.two (.l cs)))) {p : Addr} {vs : List V} (hw : σ[i]? = some (some (.ref p))) (hp : H p = some (.lst vs)) : vs.length = cs.length := by
  obtain ⟨w, hw', p', vs', as, rfl, _, hr, hc, _⟩ := R.sl i _ e
  rw [hw] at hw'
  cases hw'
  have hr : H p = some (.lst vs') := hr
  rw [hp] at hr
  cases hr
  exact ChPs.len hc
/-- x[j], a list in the slot's list, is asked for; what is done with it -/
def zNo (i : Nat) (zi : ZE) (k : List Ch → Nat → List Z → Prop) : G → Prop := fun Γ => match Γ[i]? with
  | some (some (.two (.l cs))) => zi Γ fun b => match b with
    | .set (.int j) => ∃ n : Nat, ixN cs.length j = some n ∧ ∃ zs, cs[n]? = some (.l zs) ∧ k cs n zs
    | _ => False
  | _ => False
theorem no_ok {i : Nat} {ti : TE} {zi : ZE} {k : List Ch → Nat → List Z → Prop} (hi : SE fr ti zi) {Q : VK} (R0 : Rel fr F Γ [] σ H)
    (kq : ∀ cs n zs, Γ[i]? = some (some (.two (.l cs))) → cs[n]? = some (.l zs) → k cs n zs → ∀ H1 S a us, RelS fr F Γ [] σ H1 S → H1 a = some (.lst us) → us.length = zs.length →
      (∀ us' zs', (Le (vw S H1 (eqO .set)) (vw S (L2.upd H1 a (.lst us')) (eqO .set)) → Zps fr.K (vw S H1 (eqO .set)) us zs → Zps fr.K (vw S (L2.upd H1 a (.lst us')) (eqO .set)) us' zs') → Rel fr F (Γ.set i (some (.two (.l (cs.set n (.l zs')))))) [] σ (L2.upd H1 a (.lst us'))) → Q (.ref a) H1) (q : zNo i zi k Γ) : tOp (rIxL fr.K) (tVar i) ti σ H Q := by
  unfold zNo at q
  split at q
  · rename_i cs e
    obtain ⟨S0, R00⟩ := R0
    obtain ⟨v, hv, _⟩ := R00.sl i _ e
    refine ⟨v, hv, ?_⟩
    have R00' : RelS fr F Γ ([] ++ []) σ H S0 := R00
    have R1 : Rel fr F Γ ([] ++ [(v, B.dead)]) σ H := ⟨S0, R00'.same (b := .dead) True.intro⟩
    refine hi F Γ _ σ H _ _ R1 (fun b hb w H1 R2 => ?_) q
    split at hb
    · rename_i j
      obtain ⟨n, hn, zs, hc, hk⟩ := hb
      have e2 := zp_int (Rel.zp (T := [] ++ [(v, B.dead)]) (A := [(w, B.set (.int j))]) R2 (j := 0) rfl rfl)
      obtain ⟨S, R2⟩ := R2
      have R3 : RelS fr F Γ [] σ H1 S := Rel.none (T := [(v, B.dead)]) (A := [(w, B.set (.int j))]) R2
      obtain ⟨p, vs, a, us, h1, h2, h3, h4, h5, h6⟩ := R3.turn2 e hc
      rw [hv] at h1
      cases h1
      have hl := R3.two_len e hv h2
      refine ⟨p, vs, j, .ref a, rfl, e2, SqL.of h2, ?_, kq cs n zs e hc hk H1 S a us R3 h4 h5.len fun us' zs' hz => h6 us' zs' fun m => hz m h5⟩
      unfold atI
      rw [hl, hn]
      exact h3
    · exact hb.elim
  · exact q.elim
/-- x[j].append(c) -/
def zTApC (i : Nat) (zi : ZE) (y : Z) : ZS := fun D Γ => zNo i zi (fun cs n zs => zs.length < 1000000 ∧ D.nx (Γ.set i (some (.two (.l (cs.set n (.l (zs ++ [y])))))))) Γ
theorem z_tapC {i : Nat} {ti : TE} {zi : ZE} {c : V} {y : Z} (hi : SE fr ti zi) (hc : ∀ H, Zp fr.K H c y) : SS fr (tDrop (tBM fr.K "list" rAppend (tOp (rIxL fr.K) (tVar i) ti) (tCons (tC c) tNil))) (zTApC i zi y) := by
  intro F Γ σ H zD D R hD q
  refine no_ok (Q := _) hi R (fun cs n zs e hn hk H1 S a us R1 ha hl go => ?_) q
  refine ⟨.inl ⟨rfl, us, SqL.of ha⟩, a, us, c, rfl, rfl, ha, mem_lt (by omega), hD.nx _ _ _ (go (us ++ [c]) (zs ++ [y]) fun m h => zps_app (h.up m) (.cons (hc _) .nil)) hk.2⟩
/-- x[j].append(y), y a name -/
def zTApV (i : Nat) (zi : ZE) (m : Nat) : ZS := fun D Γ => match Γ[m]? with
  | some (some (.set y)) => zNo i zi (fun cs n zs => zs.length < 1000000 ∧ D.nx (Γ.set i (some (.two (.l (cs.set n (.l (zs ++ [y])))))))) Γ
  | _ => False
theorem z_tapV {i m : Nat} {ti : TE} {zi : ZE} (hi : SE fr ti zi) : SS fr (tDrop (tBM fr.K "list" rAppend (tOp (rIxL fr.K) (tVar i) ti) (tCons (tVar m) tNil))) (zTApV i zi m) := by
  intro F Γ σ H zD D R hD q
  unfold zTApV at q
  split at q
  · rename_i y ey
    refine no_ok (Q := _) hi R (fun cs n zs e hn hk H1 S a us R1 ha hl go => ?_) q
    obtain ⟨c, hc1, hc2⟩ := R1.sl m _ ey
    have hc2 : Zp fr.K (vw S H1 (eqO .set)) c y := hc2
    refine ⟨.inl ⟨rfl, us, SqL.of ha⟩, c, hc1, a, us, c, rfl, rfl, ha, mem_lt (by omega), hD.nx _ _ _ (go (us ++ [c]) (zs ++ [y]) fun m h => zps_app (h.up m) (.cons (hc2.up m) .nil)) hk.2⟩
  · exact q.elim
/-- x[j].clear() -/
def zTClr (i : Nat) (zi : ZE) : ZS := fun D Γ => zNo i zi (fun cs n _ => D.nx (Γ.set i (some (.two (.l (cs.set n (.l []))))))) Γ
theorem z_tclr {i : Nat} {ti : TE} {zi : ZE} (hi : SE fr ti zi) : SS fr (tDrop (tBM0 fr.K "list" rClear (tOp (rIxL fr.K) (tVar i) ti))) (zTClr i zi) := by
  intro F Γ σ H zD D R hD q
  refine no_ok (Q := _) hi R (fun cs n zs e hn hk H1 S a us R1 ha hl go => ?_) q
  exact ⟨.inl ⟨rfl, us, SqL.of ha⟩, a, us, rfl, rfl, ha, hD.nx _ _ _ (go [] [] fun _ _ => .nil) hk⟩
/-! ### a list of lists is made -/
def B.chf : B → (Ch → Prop) → Prop
  | .set z, k => k (.s z)
  | .own (.lst l), k => k (.l l)
  | .own (.dk ks l), k => k (.k ks l)
  | .own (.dt ks l), k => k (.t ks l)
  | .frs (.lst l), k => Z.imms l = true ∧ k (.l l)
  | .bor _ _ z, k => z.imm = true ∧ k (.s z)
  | _, _ => False
def chfs : List B → (List Ch → Prop) → Prop
  | [], k => k []
  | b :: bs, k => b.chf fun c => chfs bs fun cs => k (c :: cs)
theorem P_chf {K : PySem.W.Frag} {me me' : Own} {v : V} {b : B} {k : Ch → Prop} (h : b.P K S H me v) (q : b.chf k) : ∃ c oa, k c ∧ (∀ x, oa = some x → S x = me ∧ H x ≠ none) ∧ ∀ (S' : Addr → Own) (H' : Hp), (∀ x o, H x = some o → isTbl o = false → H' x = some o) → (∀ x, H x ≠ none → S x = .set → S' x = .set) → (∀ x, H x ≠ none → S x = me → S' x = me') → ChP K S' H' me' v oa c := by
  have le : ∀ {S' : Addr → Own} {H' : Hp}, (∀ x o, H x = some o → isTbl o = false → H' x = some o) → (∀ x, H x ≠ none → S x = .set → S' x = .set) → Le (vw S H (eqO .set)) (vw S' H' (eqO .set)) := fun hk hs => vw_le fun x o e n c => ⟨hk x o e n, c.imp id fun c => decide_eq_true (hs x (by rw [e]; simp) (of_decide_eq_true c))⟩
  have own : ∀ {a : Addr} {o : HO}, H a = some o → S a = me → ∀ x, some a = some x → S x = me ∧ H x ≠ none := fun e s x z => by cases z; exact ⟨s, by rw [e]; simp⟩
  cases b with
  | set z => exact ⟨.s z, none, q, (fun x z => nomatch z), fun S' H' hk hs _ => ⟨rfl, Zp.up (le hk hs) h⟩⟩
  | bor st is z => exact ⟨.s z, none, q.2, (fun x z => nomatch z), fun S' H' hk hs _ => ⟨rfl, Zp.imm (fun b xs e => vw_at (hk b _ (vw_of e).1 rfl) rfl (.inl rfl)) q.1 (B.P.all h rfl)⟩⟩
  | own z =>
    cases z with
    | lst l =>
      obtain ⟨a, vs, rfl, s, h1, h2⟩ := h
      exact ⟨.l l, some a, q, own h1 s, fun S' H' hk hs hm => ⟨a, vs, rfl, rfl, hm a (by rw [h1]; simp) s, hk _ _ h1 rfl, h2.up (le hk hs)⟩⟩
    | dk ks l =>
      obtain ⟨a, vs, rfl, s, h1, h2, h3⟩ := h
      exact ⟨.k ks l, some a, q, own h1 s, fun S' H' hk hs hm => ⟨a, vs, rfl, rfl, hm a (by rw [h1]; simp) s, hk _ _ h1 rfl, h2, h3.up (le hk hs)⟩⟩
    | dt ks l =>
      obtain ⟨a, vs, rfl, s, h1, h2, h3⟩ := h
      exact ⟨.t ks l, some a, q, own h1 s, fun S' H' hk hs hm => ⟨a, vs, rfl, rfl, hm a (by rw [h1]; simp) s, hk _ _ h1 rfl, h2, h3.up (le hk hs)⟩⟩
    | _ => exact q.elim
  | frs z =>
    cases z with
    | lst l =>
      obtain ⟨a, vs, rfl, h1, h2⟩ := zp_lst (h : Zp K (vw S H (eqO me)) v (.lst l))
      obtain ⟨h3, _, h4⟩ := vw_of h1
      have s : S a = me := h4.elim (fun z => nomatch z) fun z => of_decide_eq_true z
      exact ⟨.l l, some a, q.2, own h3 s, fun S' H' hk hs hm => ⟨a, vs, rfl, rfl, hm a (by rw [h3]; simp) s, hk _ _ h3 rfl, h2.imm (fun b xs e => vw_at (hk b _ (vw_of e).1 rfl) rfl (.inl rfl)) q.1⟩⟩
    | _ => exact q.elim
  | _ => exact q.elim
theorem chfs_ok {me : Own} (R : RelS fr F Γ (T ++ A) σ H S) : ∀ {A1 A2 : List (V × B)} {k : List Ch → Prop}, A = A1 ++ A2 → chfs (A2.map (·.2)) k → ∃ cs as, k cs ∧ (∀ x ∈ cells as, (∃ j, A1.length ≤ j ∧ S x = .tmp (T.length + j)) ∧ H x ≠ none) ∧ (cells as).Nodup ∧
    ∀ (S' : Addr → Own) (H' : Hp), (∀ x o, H x = some o → isTbl o = false → H' x = some o) → (∀ x, H x ≠ none → S x = .set → S' x = .set) → (∀ x j, H x ≠ none → T.length ≤ j → S x = .tmp j → S' x = me) → ChPs fr.K S' H' me (A2.map (·.1)) as cs
  | A1, [], k, e, q => ⟨[], [], q, (fun x h => nomatch h), List.nodup_nil, fun _ _ _ _ _ => True.intro⟩
  | A1, (v, b) :: A2, k, e, q => by
    have q : b.chf fun c => chfs (A2.map (·.2)) fun cs => k (c :: cs) := q
    have hv := R.tm (T.length + A1.length) v b (by rw [List.getElem?_append_right (by omega), show T.length + A1.length - T.length = A1.length by omega, e, List.getElem?_append_right (by omega), Nat.sub_self]; rfl)
    obtain ⟨c, oa, h1, h2, h3⟩ := P_chf (me' := me) hv q
    obtain ⟨cs, as, g1, g2, g3, g4⟩ := chfs_ok (me := me) R (A1 := A1 ++ [(v, b)]) (A2 := A2) (by rw [e, List.append_assoc]; rfl) h1
    refine ⟨c :: cs, oa :: as, g1, fun x hx => ?_, ?_, fun S' H' hk hs hm => ⟨h3 S' H' hk hs fun x hx sx => hm x _ hx (by omega) sx, g4 S' H' hk hs hm⟩⟩
    · rw [cells_cons] at hx
      cases oa with
      | none =>
        obtain ⟨⟨j, j1, j2⟩, j3⟩ := g2 x hx
        exact ⟨⟨j, by rw [List.length_append] at j1; omega, j2⟩, j3⟩
      | some y =>
        rcases List.mem_cons.mp hx with rfl | hx
        · exact ⟨⟨A1.length, Nat.le_refl _, (h2 _ rfl).1⟩, (h2 _ rfl).2⟩
        · obtain ⟨⟨j, j1, j2⟩, j3⟩ := g2 x hx
          exact ⟨⟨j, by rw [List.length_append] at j1; omega, j2⟩, j3⟩
    · rw [cells_cons]
      cases oa with
      | none => exact g3
      | some y =>
        refine List.nodup_cons.mpr ⟨fun hy => ?_, g3⟩
        obtain ⟨⟨j, j1, j2⟩, _⟩ := g2 y hy
        rw [(h2 y rfl).1] at j2
        injection j2 with j2
        rw [List.length_append] at j1
        have : ([(v, b)] : List (V × B)).length = 1 := rfl
        omega
def zLst2 (z : ZA) : ZE := fun Γ k => z Γ fun bs => chfs bs fun cs => k (.two (.l cs))
theorem z_lst2 {n : Nat} {t : TA} {z : ZA} (h : SA fr n t z) (hn : n ≤ 1000 := by decide) : SE fr (tLst t) (zLst2 z) := by
  intro F Γ T σ H Q k R kq q
  refine h F Γ T σ H _ _ R (fun bs hb A H1 e1 e2 R1 => ?_) q
  obtain ⟨S, R1⟩ := R1
  subst e1
  obtain ⟨cs, as, hk, g2, g3, g4⟩ := chfs_ok (me := .tmp T.length) R1 (A1 := []) (A2 := A) rfl hb
  refine ⟨by rw [List.length_map, e2]; exact sz_n hn, fun p hp => ?_⟩
  have hS : ∀ x, H1 x ≠ none → newO p (.tmp T.length) (retm T.length (.tmp T.length) S) x = retm T.length (.tmp T.length) S x := fun x h => newO_ne fun z => h (z ▸ hp)
  have ch := g4 (newO p (.tmp T.length) (retm T.length (.tmp T.length) S)) (upd H1 p (.lst (A.map (·.1)))) (fun x o e _ => (upd_ne (ne_of_none e hp)).trans e) (fun x h c => (hS x h).trans (retm_set c)) (fun x j h hj c => (hS x h).trans (retm_hi hj c))
  refine kq _ hk _ _ ⟨_, R1.alloc hp (.inr rfl) (.inr rfl) (b := .two (.l cs)) ⟨p, _, as, rfl, newO_at, upd_same, ch, List.nodup_cons.mpr ⟨fun hx => (g2 p hx).2 hp, g3⟩⟩⟩
end
end Rt

set_option autoImplicit false
namespace Rt
open PySem PySem.Spec PyProof.Rows L2 RZ TL LamX
variable [TabsT]
/-! ### defs that may raise, where they don't -/
section
variable {P : Program} {w : World} {K : PySem.W.Frag} {mg : Str → Option Value} {base : Heap} {x : Str} {k : Nat}
def noX (R : RZs) : RZs := fun zs kk _ => R zs kk fun _ => False
theorem fn_noE {f : Addr} {fd : FuncData} {ps : List Str} {R : RZs} (F : FnOk P w K mg base (L2.CX P w) k f fd ps (spZ K mg R)) : FnOk P w K mg base CX0 k f fd ps (spZ K mg (noX R)) := by
  have conv : ∀ {vs H Q E}, spZ K mg (noX R) vs H Q E → spZ K mg R vs H Q (fun _ _ _ => False) := fun {vs H Q E} ⟨E0, zs, kk, e, h1, h2, h3, h4, h5, h6⟩ => ⟨E0, zs, kk, fun _ => False, h1, h2, h3, h4, h5, fun x h => h.elim⟩
  refine ⟨fun vs H Q E h => F.len vs H Q _ (conv h), fun A outer s H args us vs Q E hr he hb hv hs => ?_⟩
  refine codeAny_mono (F.run A outer s H args us vs Q (fun _ _ _ => False) hr he hb hv (conv hs)) fun r s' hq => ?_
  cases r with
  | error e =>
    obtain ⟨_, _, _, _, _, _, _, _, _, _, _, _, z⟩ := hq
    exact z.elim
  | ok fl =>
    cases fl with
    | ret u => exact hq
    | next => exact hq
    | brk => exact hq
    | cont => exact hq
theorem _root_.Rt.DefX.plain {R : RZs} (D : DefX P w K mg base x k (spZ K mg R)) : Def P w K mg base x k (spZ K mg (noX R)) := by
  obtain ⟨f, fd, ps, h1, h2, h3, h4⟩ := D.ex
  exact ⟨f, fd, ps, [], h1, fn_noE h2, h3, h4, .nil⟩
theorem _root_.Rt.DefXd.plain {R : RZs} {dvs : List V} (D : DefXd P w K mg base x k (spZ K mg R) dvs) : Def P w K mg base x k (spZ K mg (noX R)) dvs := by
  obtain ⟨f, fd, ps, ds, h1, h2, h3, h4, h5⟩ := D.ex
  exact ⟨f, fd, ps, ds, h1, fn_noE h2, h3, h4, h5⟩
end
end Rt

set_option autoImplicit false
namespace Rt
open PySem PySem.Spec PyProof.Rows L2 LamX NdefX
/-! ### what leaves all that is there as it is -/
def Kept (s s' : Shared) : Prop := ∃ (h' : Heap) (tk : Nat), s' = { s with heap := h', toks := tk } ∧ ∀ b o, s.heap.get? b = some o → h'.get? b = some o
theorem Kept.refl (s : Shared) : Kept s s := ⟨s.heap, s.toks, rfl, fun _ _ e => e⟩
theorem Kept.tok (s : Shared) (t : Nat) : Kept s { s with toks := t } := ⟨s.heap, t, rfl, fun _ _ e => e⟩
theorem Kept.trans {s s1 s2 : Shared} (a : Kept s s1) (b : Kept s1 s2) : Kept s s2 := by
  obtain ⟨h1, t1, rfl, k1⟩ := a
  obtain ⟨h2, t2, rfl, k2⟩ := b
  exact ⟨h2, t2, rfl, fun b o e => k2 b o (k1 b o e)⟩
theorem Kept.inv {X : Cx} {pins : List (Addr × Obj)} {σ : L2.St} {H : Hp} {s s' : Shared} (k : Kept s s') (I : Inv X pins σ H s) : Inv X pins σ H s' := by
  obtain ⟨h, t, rfl, k⟩ := k
  exact I.kept k
abbrev TX := L2.St → Hp → (V → Prop) → Prop
/-- an expression that only reads -/
structure PX (X : Cx) (e : Expr) (t : TX) : Prop where
  run : ∀ (pins : List (Addr × Obj)) (s : Shared) (σ : L2.St) (H : Hp) (Q : V → Prop), Inv X pins σ H s → t σ H Q →
    wpAny (model X.prog X.w) X.A (eval e X.env) (fun u s' => Kept s s' ∧ ∃ v, L2.RelV v u ∧ Q v) (fun _ _ => False) s
section
variable {X : Cx} {a b e : Expr} {ta tb : TX} {p pos : Pos}
def xVar (i : Nat) : TX := fun σ H Q => ∃ v, σ[i]? = some (some v) ∧ Q v
theorem px_var {i : Nat} {x : Str} (hN : X.N[i]? = some x) (hv : Vis X.env.scope x) (hd : (x == ("__debug__" : Str)) = false := by decide) (hcd : (x == ("__classdict__" : Str)) = false := by decide) : PX X (.Name x pos) (xVar i) := by
  refine ⟨fun pins s σ H Q I h => ?_⟩
  obtain ⟨v, e, h⟩ := h
  obtain ⟨m, hn, hl⟩ := I.loc
  obtain ⟨u, r, l⟩ := hl i x v hN e hv
  have fin : Kept s s ∧ ∃ v, L2.RelV v u ∧ Q v := ⟨Kept.refl s, v, r, h⟩
  rcases l with ⟨hk, hm⟩ | ⟨hk, c, hc, hcell⟩
  · exact wpAny_Name (wpAny_loadName_local I.ok.kind hk hn hm fin) hd
  · rcases hk with hk | hk
    · exact wpAny_Name (wpAny_loadName_cell I.ok.kind hk hc hcell fin) hd
    · exact wpAny_Name (wpAny_loadName_free I.ok.kind hk hc hcell fin hcd) hd
def xSub (ta tb : TX) : TX := fun σ H Q => ta σ H fun x => tb σ H fun y => ∃ i j, x = .int i ∧ y = .int j ∧ Q (.int (i - j))
theorem px_sub (ha : PX X a ta) (hb : PX X b tb) : PX X (.BinOp a .Sub b pos) (xSub ta tb) := by
  refine ⟨fun pins s σ H Q I h => ?_⟩
  refine wpAny_BinOp (thn (ha.run pins s σ H _ I h) fun v s1 ⟨k1, x, r1, q1⟩ => thn (hb.run pins s1 σ H _ (k1.inv I) q1) fun u s2 ⟨k2, y, r2, q2⟩ => ?_)
  obtain ⟨i, j, rfl, rfl, q⟩ := q2
  obtain ⟨t, rfl⟩ := r1
  obtain ⟨t', rfl⟩ := r2
  exact sub_int ⟨(k1.trans k2).trans (Kept.tok _ _), .int _, ⟨_, rfl⟩, q⟩
def xAbs (ta : TX) : TX := fun σ H Q => ta σ H fun x => ∃ i, x = .int i ∧ Q (.int (if i < 0 then -i else i))
theorem px_abs (hg : Gl X "abs") (hm : X.mg "abs" = none) (ha : PX X a ta) (hv : bootBuiltins "abs" = some (.builtin "abs") := by rfl)
    (hs : starEach [a] X.env = (false, eval a X.env) :: starEach [] X.env := by rfl) : PX X (.Call (.Name "abs" p) [a] [] pos) (xAbs ta) := by
  refine ⟨fun pins s σ H Q I h => ?_⟩
  refine wpAny_Call_Name_kw (ld_blt I hg hm hv ?_)
  refine PyProof.Rows.callWith_builtin1 ?_ hs rfl
  rw [hs]
  show wpAny _ _ (spliced ((false, eval a X.env) :: backTo pos (starEach [] X.env))) _ _ s
  refine Calls.spliced_cons (thn (ha.run pins s σ H _ I h) fun u s1 ⟨k1, x, r1, i, ex, q⟩ => Calls.spliced_nil ?_)
  subst ex
  obtain ⟨t, rfl⟩ := r1
  exact call_abs_int fun u tk => ⟨k1.trans (Kept.tok _ _), .int _, ⟨_, rfl⟩, q⟩
/-- e[i], e a tuple -/
def xIxT (K : PySem.W.Frag) (i : Int) (ta : TX) : TX := fun σ H Q => ta σ H fun x => ∃ q xs v, x = .ref q ∧ SqT K H q xs ∧ atI xs i = some v ∧ Q v
theorem px_ixT {i : Int} {j : Nat} {p2 : Pos} (ha : PX X a ta) (hs : PlainIx (.Constant (.int i) j p2)) : PX X (.Subscript a (.Constant (.int i) j p2) pos) (xIxT X.K i ta) := by
  refine ⟨fun pins s σ H Q I h => ?_⟩
  refine Subscript_ (thn (ha.run pins s σ H _ I h) fun v s1 ⟨k1, x, r1, q1⟩ => wpAny_Constant_int ?_)
  obtain ⟨q, xs, z, rfl, hq, he, hQ⟩ := q1
  cases r1
  have I2 := (Kept.tok s1 (s1.toks + 1)).inv (k1.inv I)
  obtain ⟨its, r, pl, hz⟩ := I2.tuple hq
  obtain ⟨j', h1, h2, h3, h4, h5⟩ := atI_get he
  obtain ⟨w, ew, rw'⟩ := r.get h2
  have hl := r.length
  have hn := line63
  exact subscriptTail_builtinR (x := w) pl.typeIs slot_tuple_getitem.lookup
    (getItem_tuple (j := j') (Q := fun r s' => r = w ∧ (Kept s s' ∧ ∃ v, L2.RelV v r ∧ Q v)) pl (by omega) (by omega) (by rw [List.size_toArray, ← hl]; exact h1) (by simpa using ew) ⟨rfl, k1.trans (Kept.tok _ _), z, rw', hQ⟩) (hs _ _)
end
/-! ### a lambda of one parameter -/
structure LF where
  q : Str
  params : Arguments
  body : Expr
  scope : Scope
  cl : List (Str × Addr)
  c : Addr
def LamO (f : Addr) (L : LF) : HO := .ext fun h => ∃ (pm ctv : Value), h.get? f = some (PySem.W.kla_obj "<lambda>" L.q L.params L.body L.scope L.cl pm L.c ctv)
def LF.nf (L : LF) : NF := ⟨"<lambda>", L.q, L.params, [], L.scope, L.cl, L.c⟩
theorem lamO_at {P : Program} {w : World} {H : Hp} {h : Heap} {f : Addr} {L : LF} (hok : HOk P w H h) (e : H f = some (LamO f L)) : ∃ (pm ctv : Value), h.get? f = some (PySem.W.kla_obj "<lambda>" L.q L.params L.body L.scope L.cl pm L.c ctv) := by
  obtain ⟨z, _, _⟩ := hok f _ e
  exact z
section
variable {X : Cx} {pins : List (Addr × Obj)} {σ : L2.St} {H : Hp} {s : Shared}
theorem inv_lam {L : LF} {o : Obj} {t' : Nat} {pm ctv : Value} (I : Inv X pins σ H s) (ho : o = PySem.W.kla_obj "<lambda>" L.q L.params L.body L.scope L.cl pm L.c ctv) :
    Inv X pins σ (upd H s.heap.objs.size (LamO s.heap.objs.size L)) { s with heap := s.heap.push o, toks := t' } := by
  subst ho
  refine I.laid (a := s.heap.objs.size) (fun b u e => Heap.get?_push_of_some _ e) (Nat.le_refl _) ?_
  have e : (s.heap.push (PySem.W.kla_obj "<lambda>" L.q L.params L.body L.scope L.cl pm L.c ctv)).get? s.heap.objs.size = some (PySem.W.kla_obj "<lambda>" L.q L.params L.body L.scope L.cl pm L.c ctv) := Heap.get?_push_size _ rfl
  exact ⟨⟨pm, ctv, e⟩, ⟨_, e⟩, fun h1 h2 ⟨p, t, z⟩ st => ⟨p, t, st _ z⟩⟩
theorem lam_make3 {T : List (Addr × Str)} {c P : Addr} {params : Arguments} {body : Expr} {scope : Scope} {pos : Pos} {E : Value → Shared → Prop} {Q : Value → Shared → Prop} (I : Inv X pins σ H s) (TB : TabB X.base X.mg c P) (hcode : X.env.code = .ref c)
    (hm : (P, X.env.qual ++ "<lambda>") ∈ T) (hu : ∀ p ∈ T, p.1 = P → p.2 = X.env.qual ++ "<lambda>") (hT : Tabs T H) (hdef : defaultsOf params X.env = ([], [])) (hfree : ∀ y ∈ scope.names, y.2 = .free → ∃ c, X.env.cells.lookup y.1 = some c)
    (h : ∀ (f c' : Addr) (H1 : Hp) (s' : Shared), Inv X pins σ H1 s' → ExtN H H1 → (∀ b, H1 b = none → H b = none) → Tabs T H1 → H f = none → H1 f = some (LamO f ⟨X.env.qual ++ "<lambda>", params, body, scope, cloFrom X.env.cells scope.names [], c'⟩) → H1 c' = some (CodeO c' (X.env.qual ++ "<lambda>")) → Q (.ref f) s') :
    wpAny (model X.prog X.w) X.A (eval (.Lambda params body scope pos) X.env) Q E s := by
  obtain ⟨ps, hP, ht, ha⟩ := hT _ hm
  refine PySem.W.kla_eval hdef ?_
  have bP : s.heap.BuiltinsAt X.mg P := TB.bm.keeps I.bk
  have hP' : s.heap.get? P = some { cls := .none, data := .fields ps } := I.hok P _ hP
  cases hc : codeAmong pos ps.toList with
  | none =>
    refine PySem.W.kla_makeFunction (mg := X.mg) (c := c) (P := P) (ps := ps) (closure_ok hfree) I.ok.glob (I.mod.glob.keeps I.bk) hcode (TB.code.keeps I.bk) hP' ht hc TB.gP bP fun c' ctv h' tk hx hge hlt hrec htb => ?_
    obtain ⟨c2, oc, vs, t, e2, hoc, hd, hv⟩ := hrec
    cases e2
    have nC : H c' = none := I.hok.fresh hge
    have I1 := inv_table (t' := tk) (more := #[rawInt pos.line, rawInt pos.col, .ref c']) (h' := h') I hP (fun b o hb e => hx b o hb e) htb hge ⟨oc, vs, t, hoc, hd, hv⟩
    have hE : ExtN H (upd (upd H P (.tbl (ps ++ #[rawInt pos.line, rawInt pos.col, .ref c']))) c' (CodeO c' (X.env.qual ++ "<lambda>"))) := fun b o e n => by
      rw [upd_ne (ne_of_none e nC), upd_ne (fun z => n ps (Option.some.inj (e.symm.trans (by rw [z]; exact hP))))]
      exact e
    have eL : (ps ++ #[rawInt pos.line, rawInt pos.col, .ref c']).toList = ps.toList ++ [rawInt pos.line, rawInt pos.col, .ref c'] := by simp
    have T1 : Tabs T (upd (upd H P (.tbl (ps ++ #[rawInt pos.line, rawInt pos.col, .ref c']))) c' (CodeO c' (X.env.qual ++ "<lambda>"))) := fun p hp => by
      by_cases hb : p.1 = P
      · rw [hu p hp hb, hb]
        refine ⟨_, by rw [upd_ne (ne_of_none hP nC), upd_same], by rw [eL]; exact PySem.TriplesOk_snoc _ _ _ _ ht, fun p' cv hcv => ?_⟩
        rw [eL] at hcv
        rcases among_app _ ht hcv with z | z
        · obtain ⟨c0, e1, e2⟩ := ha p' cv z
          exact ⟨c0, e1, hE _ _ e2 codeO_ne⟩
        · exact ⟨c', z, upd_same⟩
      · obtain ⟨ps', a1, a2, a3⟩ := hT p hp
        refine ⟨ps', by rw [upd_ne (ne_of_none a1 nC), upd_ne hb]; exact a1, a2, fun p' cv hcv => ?_⟩
        obtain ⟨c0, e1, e2⟩ := a3 p' cv hcv
        exact ⟨c0, e1, hE _ _ e2 codeO_ne⟩
    have nF := I1.hok.fresh (Nat.le_refl _)
    have I2 := inv_lam (L := ⟨X.env.qual ++ "<lambda>", params, body, scope, cloFrom X.env.cells scope.names [], c'⟩) (t' := tk) (pm := (X.mg "__name__").getD .none) (ctv := ctv) I1 rfl
    refine h h'.objs.size c' _ _ I2 (fun b o e n => ?_) (fun b e => upd_none (upd_none (upd_none e))) (T1.ext fun b o e => ?_) (I.hok.fresh (Nat.le_trans hge (Nat.le_of_lt hlt))) upd_same ?_
    · have e1 := hE b o e n
      exact (upd_ne (ne_of_none e1 nF)).trans e1
    · exact (upd_ne (ne_of_none e nF)).trans e
    · exact (upd_ne (Nat.ne_of_lt hlt)).trans upd_same
  | some cv =>
    obtain ⟨c', e, hco⟩ := ha pos cv hc
    subst e
    refine PySem.W.kla_makeFunctionHit (mg := X.mg) (c := c) (P := P) (ps := ps) (closure_ok hfree) I.ok.glob (I.mod.glob.keeps I.bk) hcode (TB.code.keeps I.bk) hP' ht hc bP fun ctv h' tk hx hsz => ?_
    have I1 : Inv X pins σ H { s with heap := h', toks := tk } := I.kept hx
    have nF : H h'.objs.size = none := I1.hok.fresh (Nat.le_refl _)
    have I2 := inv_lam (L := ⟨X.env.qual ++ "<lambda>", params, body, scope, cloFrom X.env.cells scope.names [], c'⟩) (t' := tk) (pm := (X.mg "__name__").getD .none) (ctv := ctv) I1 rfl
    refine h h'.objs.size c' _ _ I2 (fun b o e n => ?_) (fun b e => upd_none e) (hT.ext fun b o e => ?_) nF upd_same ?_
    · exact (upd_ne (ne_of_none e nF)).trans e
    · exact (upd_ne (ne_of_none e nF)).trans e
    · exact (upd_ne (ne_of_none hco nF)).trans hco
/-- lambda a: body, made -/
def tLamX (T : List (Addr × Str)) (mk : Addr → LF) : TE := fun σ H Q => Tabs T H ∧ ∀ (f c' : Addr) (H1 : Hp), ExtN H H1 → (∀ b, H1 b = none → H b = none) → Tabs T H1 → H f = none → H1 f = some (LamO f (mk c')) → H1 c' = some (CodeO c' (mk c').q) → Q (.ref f) H1
theorem pe_lamX {T : List (Addr × Str)} {c P : Addr} {params : Arguments} {body : Expr} {scope : Scope} {lpos : Pos} (TB : TabB X.base X.mg c P) (hcode : X.env.code = .ref c) (hmT : (P, X.env.qual ++ "<lambda>") ∈ T) (hu : ∀ p ∈ T, p.1 = P → p.2 = X.env.qual ++ "<lambda>")
    (hdef : defaultsOf params X.env = ([], [])) (hfree : ∀ y ∈ scope.names, y.2 = .free → X.env.scope.names.lookup y.1 = some .cell ∨ X.env.scope.names.lookup y.1 = some .free) :
    PE X (.Lambda params body scope lpos) (tLamX T fun c' => ⟨X.env.qual ++ "<lambda>", params, body, scope, cloFrom X.env.cells scope.names [], c'⟩) :=
  ⟨fun pins s σ H Q I ⟨hT, h⟩ => lam_make3 I TB hcode hmT hu hT hdef (fun y hy e => (hfree y hy e).elim (fun z => I.ok.has _ (.inl z)) fun z => I.ok.has _ (.inr z))
    fun f c' H1 s' I1 eN nb T1 hf hl hc => ⟨.ref f, H1, I1, rfl, h f c' H1 eN nb T1 hf hl hc⟩⟩
/-- the lambda called: it only reads -/
theorem lam_pure {N fr : List Str} {js : List Nat} {a : Str} {f : Addr} {L : LF} {tb : TX} {k : Nat} {A' : Around} {u : Value} {v : V} {Q : V → Prop} (I : Inv X pins σ H s) (S : NScope N [a] fr L.scope) (C : Caps X L.cl fr js)
    (hf : H f = some (LamO f L)) (hco : H L.c = some (CodeO L.c L.q)) (hbind : ∀ (q : Str) (cl : List (Str × Addr)) (pm cv ctv u : Value), bindArgs (PySem.W.kla_fn "<lambda>" q L.params L.body L.scope cl pm cv ctv) ⟨[u], []⟩ = pure [(a, u)])
    (hb : ∀ (A : Around) (outer : List Env) (s : Shared) (H : Hp), PX (ncx C8.CX0 X.prog X.w X.K X.mg X.base N L.nf f A outer s H C8.E0) L.body tb)
    (hr : Room (k + 1) A') (hfr : A'.frames = some X.stack) (r : L2.RelV v u) (q : tb (startF N [v] (js.map (slotAt σ))) H Q) :
    wpAny (model X.prog X.w) A' (call (.ref f) [u]) (fun w s' => Kept s s' ∧ ∃ y, L2.RelV y w ∧ Q y) (fun _ _ => False) s := by
  have e0 : Env0 X.prog X.w X.K X.mg X.base A' X.stack s H := { I.env0 with frames := hfr }
  obtain ⟨pm, ctv, ho⟩ := lamO_at I.hok hf
  obtain ⟨⟨oc, vs, t, hoc, hdc, hvc⟩, _, _⟩ := I.hok _ _ hco
  have rc : codeAny (model X.prog X.w) A' (.call (.ref f) ⟨[u], []⟩) (fun r s' => ∃ w, r = .ok (.ret w) ∧ Kept s s' ∧ ∃ y, L2.RelV y w ∧ Q y) s := by
    refine PySem.W.kla_callFunE hr.depth ho rfl S.co S.gen rfl ⟨L.c, oc, vs, t, rfl, hoc, hdc, hvc⟩ ?_
    rw [hbind]
    refine wpAny_pure (wpAny_newFunctionEnv S.nocell (fun y hy => S.par y.1 (by rw [List.mem_singleton.mp hy]; exact .head _)) (fun h₁ hns hsb => ⟨I.nolimit.fresh _ hsb, ?_⟩) S.kind)
    show codeAny _ _ (.expr L.body (envF L.nf f s.heap.objs.size)) _ _
    have kp : ∀ b o, s.heap.get? b = some o → h₁.get? b = some o := fun b o e => hsb.extBut b o (Nat.ne_of_lt (Heap.lt_size e)) (Heap.get?_push_of_some _ e)
    have J : Inv (ncx C8.CX0 X.prog X.w X.K X.mg X.base N L.nf f A' X.stack s H C8.E0) [] (startF N [v] (js.map (slotAt σ))) H { s with heap := h₁, toks := s.toks + ([(a, u)] : List (Str × Value)).length } :=
      inv_startN (F := L.nf) (us := [u]) S hr.hd e0 rfl (.cons r .nil) (cells_of I C) hns kp
    refine PySem.W.kla_codeExpr (wpAny_mono ((hb A' X.stack s H).run [] _ _ H Q J q) (fun w s' hq => ?_) fun e s' hq => hq.elim)
    obtain ⟨⟨h2, t2, rfl, k2⟩, y, ry, qy⟩ := hq
    exact ⟨w, rfl, ⟨h2, t2, rfl, fun b o e => k2 b o (kp b o e)⟩, y, ry, qy⟩
  refine wpAny_call (codeAny_mono rc fun r s' hq => ?_)
  obtain ⟨w, rfl, h⟩ := hq
  exact h
end
end Rt

set_option autoImplicit false
namespace Rt
open PySem PySem.Spec PyProof.Rows L2 LamX NdefX
/-! ### min(xs, key=f): the first of the least -/
section
variable {prog : Program} {w : World} {A : Around} {E : Value → Shared → Prop} {s : Shared} {l q I S : Addr} {vs : List Value} {R : Result → Shared → Prop} {Q : Value → Shared → Prop}
def First (kf : Nat → Int) (n i : Nat) : Prop := ∀ j, j < n → kf i ≤ kf j ∧ (j < i → kf i < kf j)
def Hext (h h' : Heap) : Prop := ∀ b o, h.get? b = some o → h'.get? b = some o
theorem isList_ext {h h' : Heap} (k : Hext h h') (x : h.IsList l vs.toArray) : h'.IsList l vs.toArray := by
  obtain ⟨o, e, r⟩ := x
  exact ⟨o, k _ _ e, r⟩
theorem min_loop {h0 : Heap} (kf : Nat → Int) (hh : A.handled = none) (hl : h0.IsList l vs.toArray) (hI : h0.get? I = none) (hS : h0.get? S = none) (hSI : S ≠ I)
    (turn : ∀ (i : Nat) (v : Value), vs[i]? = some v → ∀ (h : Heap) (tk : Nat), Hext h0 h →
      wpAny (model prog w) A.in1 (call (.ref q) [v]) (fun x s' => Kept { s with heap := h, toks := tk } s' ∧ ∃ t, x = .int (kf i) t) (fun _ _ => False) { s with heap := h, toks := tk })
    (hR : ∀ i v h' tk', vs[i]? = some v → First kf vs.length i → Hext h0 h' → R (.ok (.ret v)) { s with heap := h', toks := tk' }) :
    ∀ (r j i : Nat) (h : Heap) (tk : Nat) (vb : Value) (tb : Tok) (c : Nat) (oI : Obj), vs.length - (j + 1) = r → j + 1 ≤ vs.length → Hext h0 h → h.get? S = some (seqObj "list" #[vb, .int (kf i) tb] c) → h.get? I = some oI →
      h.IsListIter I l (j + 1) → vs[i]? = some vb → i ≤ j → (∀ j', j' ≤ j → kf i ≤ kf j' ∧ (j' < i → kf i < kf j')) →
      codeAny (model prog w) A (.builtin "min.loop" ⟨[.ref I, .ref q, .ref S], []⟩) R { s with heap := h, toks := tk } := by
  have hname : (toString "min" ++ toString ".loop" : String) = "min.loop" := by decide
  obtain ⟨ol, hol, _⟩ := id hl
  have hlI : l ≠ I := fun z => by rw [z, hI] at hol; cases hol
  have W := Walks.list (prog := prog) (w := w) (A := A.in1) hh I l hlI vs.toArray
  have hsz : vs.toArray.size = vs.length := List.size_toArray ..
  intro r
  induction r with
  | zero =>
    intro j i h tk vb tb c oI hr hj X nS nI hit hvb hij hbest
    have hin : j + 1 = vs.length := by omega
    refine codeAny_builtin PySem.F.entry_min_loop ?_
    rw [Around.under_plainId PySem.F.plain_min_loop _]
    show wpAny _ A.in1 (seqItems? (.ref S) >>= _) _ _ _
    refine wpAny_bind (wpAny_seqItems nS rfl ?_)
    show wpAny _ A.in1 (tryCatch (pyNext (.ref I)) _ >>= _) _ _ _
    refine wpAny_bind (wpAny_tryCatch (W.done _ _ _ ⟨by rw [hsz, ← hin]; exact hit, isList_ext X hl⟩ fun h' tk' hk' => ?_))
    have X1 : Hext h0 h' := fun b o e => hk' b o (fun z => by rw [List.mem_singleton.mp z, hI] at e; cases e) (X b o e)
    have hS' := hk' S _ (by simpa using hSI) nS
    have s1 := Heap.SameBut.update h' S (Obj.mapSeq fun _ => (#[] : Array Value))
    show wpAny _ A.in1 (updateSeq S (fun _ => #[]) >>= _) _ _ _
    refine wpAny_bind ?_
    refine wpAny_updateSeq hS' rfl (wpAny_bind (wpAny_letGo (wpAny_pure ?_)))
    exact hR i vb _ _ hvb (fun j' hj' => hbest j' (by omega)) fun b o e => (s1.2 b (fun z => by rw [z, hS] at e; cases e)).trans (X1 b o e)
  | succ r ih =>
    intro j i h tk vb tb c oI hr hj X nS nI hit hvb hij hbest
    have hlt : j + 1 < vs.length := by omega
    refine codeAny_builtin PySem.F.entry_min_loop ?_
    rw [Around.under_plainId PySem.F.plain_min_loop _]
    show wpAny _ A.in1 (seqItems? (.ref S) >>= _) _ _ _
    refine wpAny_bind (wpAny_seqItems nS rfl ?_)
    show wpAny _ A.in1 (tryCatch (pyNext (.ref I)) _ >>= _) _ _ _
    refine wpAny_bind (wpAny_tryCatch (W.item (j + 1) _ _ _ (by rw [hsz]; exact hlt) ⟨hit, isList_ext X hl⟩ fun v h' tk' hP hst' hk' => ?_))
    have hv : vs[j + 1]? = some v := by simpa using hP
    obtain ⟨oI', hoI', hoc, hod⟩ := id hst'.1
    have X1 : Hext h0 h' := fun b o e => hk' b o (fun z => by rw [List.mem_singleton.mp z, hI] at e; cases e) (X b o e)
    have nS1 := hk' S _ (by simpa using hSI) nS
    show wpAny _ A.in1 (tryCatch (holding [v] (call (.ref q) [v])) _ >>= _) _ _ _
    refine wpAny_bind (wpAny_tryCatch (wpAny_holding (wpAny_mono (turn (j + 1) v hv h' tk' X1) (fun x s'' he => ?_) fun _ _ hF => hF.elim)))
    obtain ⟨⟨h2, tk2, rfl, X2⟩, t2, rfl⟩ := he
    have nS2 := X2 _ _ nS1
    have nI2 := X2 _ _ hoI'
    have hit2 : h2.IsListIter I l (j + 1 + 1) := ⟨oI', nI2, hoc, hod⟩
    have X12 : Hext h0 h2 := fun b o e => X2 b o (X1 b o e)
    show wpAny _ A.in1 (tryCatch (holding [v, .int (kf (j + 1)) t2] (richCompare .Lt (.int (kf (j + 1)) t2) (.int (kf i) tb) >>= _)) _ >>= _) _ _ _
    refine wpAny_bind (wpAny_tryCatch (wpAny_holding (wpAny_bind (CmpOf.ints_lt (prog := prog) (w := w) (A := A.in1) (P := fun i v => ∃ t, v = .int (kf i) t) kf (fun i v h => h) (j + 1) i _ _ _ _ _ ⟨t2, rfl⟩ ⟨tb, rfl⟩ ?_))))
    refine wpAny_bind (wpAny_holding (wpAny_truthy_bool ?_))
    refine wpAny_bind (wpAny_letGo (wpAny_pure ?_))
    by_cases hb' : kf (j + 1) < kf i
    · have s1 := Heap.SameBut.update h2 S (Obj.mapSeq fun _ => #[v, .int (kf (j + 1)) t2])
      obtain ⟨c2, hc2⟩ : ∃ c2, (h2.update S (Obj.mapSeq fun _ => #[v, .int (kf (j + 1)) t2])).get? S = some (seqObj "list" #[v, .int (kf (j + 1)) t2] c2) := ⟨_, get?_update_seq nS2 fun _ => #[v, .int (kf (j + 1)) t2]⟩
      simp only [hb', decide_true, if_true]
      refine wpAny_bind ?_
      refine wpAny_updateSeq nS2 rfl (wpAny_bind (wpAny_letGo ?_))
      rw [hname]
      refine wpAny_pure ⟨plainId_quiet PySem.F.plain_min_loop _, ih (j + 1) (j + 1) _ _ v t2 c2 oI' (by omega) hlt (fun b o e => (s1.2 b (fun z => by rw [z, hS] at e; cases e)).trans (X12 b o e)) hc2 ((s1.2 I hSI.symm).trans nI2) ⟨oI', (s1.2 I hSI.symm).trans nI2, hoc, hod⟩ hv (Nat.le_refl _) fun j' hj' => ?_⟩
      by_cases e : j' = j + 1
      · subst e
        exact ⟨by omega, fun _ => by omega⟩
      · have hb1 := hbest j' (by omega)
        have hb2 := hb1.1
        exact ⟨by omega, fun _ => by omega⟩
    · simp only [hb', decide_false, Bool.false_eq_true, if_false]
      refine wpAny_bind (wpAny_letGo ?_)
      rw [hname]
      refine wpAny_pure ⟨plainId_quiet PySem.F.plain_min_loop _, ih (j + 1) i _ _ vb tb c oI' (by omega) hlt X12 nS2 nI2 hit2 hvb (by omega) fun j' hj' => ?_⟩
      by_cases e : j' = j + 1
      · subst e
        exact ⟨by omega, fun _ => by omega⟩
      · exact hbest j' (by omega)
theorem min_key (kf : Nat → Int) (hh : A.handled = none) (hl : s.heap.IsList l vs.toArray) (hne : 0 < vs.length)
    (turn : ∀ (i : Nat) (v : Value), vs[i]? = some v → ∀ (h : Heap) (tk : Nat), Hext s.heap h →
      wpAny (model prog w) A.in1 (call (.ref q) [v]) (fun x s' => Kept { s with heap := h, toks := tk } s' ∧ ∃ t, x = .int (kf i) t) (fun _ _ => False) { s with heap := h, toks := tk })
    (hQ : ∀ i v h' tk', vs[i]? = some v → First kf vs.length i → Hext s.heap h' → Q v { s with heap := h', toks := tk' }) :
    wpAny (model prog w) A (call (.builtin "min") [.ref l] [(Str.ofString "key", .ref q)]) Q E s := by
  have hname : (toString "min" ++ toString ".loop" : String) = "min.loop" := by decide
  obtain ⟨ol, hol, _⟩ := id hl
  have hll : l < s.heap.objs.size := Heap.lt_size hol
  refine kmk_tree PySem.F.kind_min PySem.F.plain_min PySem.F.entry_min (kmk_min_key _ _) ?_
  show wpAny _ A.in1 (Builtin.Builtins.bindParams "min" ["key", "default"] 0 ⟨[], [(Str.ofString "key", .ref q)]⟩ >>= _) _ _ s
  refine wpAny_bind (wpAny_of_eq (show Builtin.Builtins.bindParams "min" ["key", "default"] 0 ⟨[], [(Str.ofString "key", .ref q)]⟩ = pure [some (.ref q), none] from rfl) ?_)
  refine wpAny_bind (wpAny_pure ?_)
  refine wpAny_bind (wpAny_pyIter_list hl ?_)
  refine wpAny_bind (wpAny_newList ?_ (Nat.zero_le _))
  rw [hname]
  refine wpAny_pure ⟨plainId_quiet PySem.F.plain_min_loop _, ?_⟩
  have hSz : (s.heap.push { cls := .type "list_iterator", data := .fields #[.ref l, .int 0 0] }).objs.size = s.heap.objs.size + 1 := size_push' ..
  have gI : ((s.heap.push { cls := .type "list_iterator", data := .fields #[.ref l, .int 0 0] }).push (seqObj "list" #[] 0)).get? s.heap.objs.size = some { cls := .type "list_iterator", data := .fields #[.ref l, .int 0 0] } :=
    Heap.get?_push_of_some _ (Heap.get?_push_size _ rfl)
  have gS : ((s.heap.push { cls := .type "list_iterator", data := .fields #[.ref l, .int 0 0] }).push (seqObj "list" #[] 0)).get? (s.heap.push { cls := .type "list_iterator", data := .fields #[.ref l, .int 0 0] }).objs.size = some (seqObj "list" #[] 0) := Heap.get?_push_size _ rfl
  have X0 : Hext s.heap ((s.heap.push { cls := .type "list_iterator", data := .fields #[.ref l, .int 0 0] }).push (seqObj "list" #[] 0)) := fun b o e => Heap.get?_push_of_some _ (Heap.get?_push_of_some _ e)
  rw [hSz] at gS ⊢
  generalize ((s.heap.push { cls := .type "list_iterator", data := .fields #[.ref l, .int 0 0] }).push (seqObj "list" #[] 0)) = g0 at gI gS X0 ⊢
  have nI : s.heap.get? s.heap.objs.size = none := Heap.get?_none_of_le (Nat.le_refl _)
  have nS : s.heap.get? (s.heap.objs.size + 1) = none := Heap.get?_none_of_le (Nat.le_succ _)
  have hSI : s.heap.objs.size + 1 ≠ s.heap.objs.size := Nat.succ_ne_self _
  have hlI : l ≠ s.heap.objs.size := Nat.ne_of_lt hll
  have W := Walks.list (prog := prog) (w := w) (A := A.in1) hh s.heap.objs.size l hlI vs.toArray
  have hsz : vs.toArray.size = vs.length := List.size_toArray ..
  refine codeAny_builtin PySem.F.entry_min_loop ?_
  rw [Around.under_plainId PySem.F.plain_min_loop _]
  show wpAny _ A.in1 (seqItems? (.ref _) >>= _) _ _ _
  refine wpAny_bind (wpAny_seqItems gS rfl ?_)
  show wpAny _ A.in1 (tryCatch (pyNext (.ref s.heap.objs.size)) _ >>= _) _ _ _
  refine wpAny_bind (wpAny_tryCatch (W.item 0 _ _ _ (by rw [hsz]; exact hne) ⟨⟨_, gI, rfl, rfl⟩, isList_ext X0 hl⟩ fun v h' tk' hP hst' hk' => ?_))
  have hv : vs[0]? = some v := by simpa using hP
  obtain ⟨oI', hoI', hoc, hod⟩ := id hst'.1
  have X1 : Hext s.heap h' := fun b o e => hk' b o (fun z => by rw [List.mem_singleton.mp z, nI] at e; cases e) (X0 b o e)
  have gS1 := hk' (s.heap.objs.size + 1) _ (by simpa using hSI) gS
  show wpAny _ A.in1 (tryCatch (holding [v] (call (.ref q) [v])) _ >>= _) _ _ _
  refine wpAny_bind (wpAny_tryCatch (wpAny_holding (wpAny_mono (turn 0 v hv h' tk' X1) (fun x s'' he => ?_) fun _ _ hF => hF.elim)))
  obtain ⟨⟨h2, tk2, rfl, X2⟩, t2, rfl⟩ := he
  have nS2 := X2 _ _ gS1
  have nI2 := X2 _ _ hoI'
  have s1 := Heap.SameBut.update h2 (s.heap.objs.size + 1) (Obj.mapSeq fun _ => #[v, .int (kf 0) t2])
  obtain ⟨c2, hc2⟩ : ∃ c2, (h2.update (s.heap.objs.size + 1) (Obj.mapSeq fun _ => #[v, .int (kf 0) t2])).get? (s.heap.objs.size + 1) = some (seqObj "list" #[v, .int (kf 0) t2] c2) := ⟨_, get?_update_seq nS2 fun _ => #[v, .int (kf 0) t2]⟩
  show wpAny _ A.in1 (updateSeq (s.heap.objs.size + 1) (fun _ => #[v, .int (kf 0) t2]) >>= _) _ _ _
  refine wpAny_bind ?_
  refine wpAny_updateSeq nS2 rfl ?_
  rw [hname]
  exact wpAny_pure ⟨plainId_quiet PySem.F.plain_min_loop _, min_loop (s := s) (h0 := s.heap) kf hh hl nI nS hSI turn hQ _ 0 0 _ _ v t2 c2 oI' rfl hne (fun b o e => (s1.2 b (fun z => by rw [z, nS] at e; cases e)).trans (X2 b o (X1 b o e))) hc2 ((s1.2 _ hSI.symm).trans nI2) ⟨oI', (s1.2 _ hSI.symm).trans nI2, hoc, hod⟩ hv (Nat.le_refl _)
    fun j' hj' => by
      have : j' = 0 := by omega
      subst this
      exact ⟨Int.le_refl _, fun h => absurd h (Nat.lt_irrefl _)⟩⟩
end
/-! ### a built-in function called with keywords, its promise told of the slots too -/
def CallRKS (X : Cx) (f : Value) (ks : List Str) (r : L2.St → List V → List V → Hp → VK → Prop) : Prop :=
  ∀ (pins : List (Addr × Obj)) (s : Shared) (σ : L2.St) (H : Hp) (xs zs : List V) (us ws : List Value) (Q : VK), Inv X pins σ H s → Vals xs us → Vals zs ws → r σ xs zs H Q → wpAny (model X.prog X.w) X.A (call f us (ks.zip ws)) (EP X pins σ Q) X.xe s
def tCKwS (r : L2.St → List V → List V → Hp → VK → Prop) (t tk : TA) : TE := fun σ H Q => t σ H fun vs H1 => tk σ H1 fun zs H2 => r σ vs zs H2 Q
section
variable {X : Cx} {x : Str} {p pos : Pos} {e : Expr} {es : List Expr} {kws : List Keyword} {t tk : TA} {id : String} {ks : List Str} {r : L2.St → List V → List V → Hp → VK → Prop}
theorem pe_callBKS (hc : CallRKS X (.builtin id) ks r) (hg : Gl X x) (hm : X.mg x = none) (hv : bootBuiltins x = some (.builtin id)) (ha : PA X (e :: es) t) (hk : PK X kws tk) (hn : x ≠ "__name__" := by decide) (hdb : (x == ("__debug__" : Str)) = false := by decide)
    (he : backTo pos (starEach (e :: es) X.env) = (false, eval e X.env) :: backTo pos (starEach es X.env) := by rfl) (hpl : (backTo pos (starEach (e :: es) X.env)).any (·.1) = false := by rfl)
    (hall : (backToKw pos (keywordEach kws X.env)).all (·.1.isSome) = true := by rfl) (hnone : (backToKw pos (keywordEach kws X.env)).any (·.1.isNone) = false := by rfl) (hks : (backToKw pos (keywordEach kws X.env)).filterMap (·.1) = ks := by rfl) :
    PE X (.Call (.Name x p) (e :: es) kws pos) (tCKwS r t tk) := by
  refine ⟨fun pins s σ H Q I h => ?_⟩
  refine wpAny_Call_Name_kw (ld_blt I hg hm hv ?_ hn hdb)
  refine PyProof.Rows.callWith_kw (thn (ha.run pos pins s σ H _ I h) fun us s1 ⟨vs, H1, I1, r1, q1⟩ => thn (hk.run pos pins s1 σ H1 _ I1 q1) fun ws s2 ⟨zs, H2, I2, r2, q2⟩ => ?_) he hpl hall hnone
  rw [hks]
  exact hc pins s2 σ H2 vs zs us ws Q I2 r1 r2 q2
/-- what is known of the lambda by its text -/
structure LamK (X : Cx) (N fr : List Str) (js : List Nat) (a : Str) (mk : Addr → LF) (tb : TX) : Prop where
  sc : ∀ c, NScope N [a] fr (mk c).scope
  caps : X.Ok → ∀ c, Caps X (mk c).cl fr js
  cc : ∀ c, (mk c).c = c
  bind : ∀ (c : Addr) (q : Str) (cl : List (Str × Addr)) (pm cv ctv u : Value), bindArgs (PySem.W.kla_fn "<lambda>" q (mk c).params (mk c).body (mk c).scope cl pm cv ctv) ⟨[u], []⟩ = pure [(a, u)]
  body : ∀ (f c : Addr) (A : Around) (outer : List Env) (s : Shared) (H : Hp), PX (ncx C8.CX0 X.prog X.w X.K X.mg X.base N (mk c).nf f A outer s H C8.E0) (mk c).body tb
def rMinL (K : PySem.W.Frag) (N : List Str) (js : List Nat) (mk : Addr → LF) (tb : TX) : L2.St → List V → List V → Hp → VK → Prop := fun σ vs zs H Q => ∃ (a f c' : Addr) (xs : List V) (kf : Nat → Int), vs = [.ref a] ∧ zs = [.ref f] ∧ H f = some (LamO f (mk c')) ∧ H c' = some (CodeO c' (mk c').q) ∧ SqL K H a xs ∧ 0 < xs.length ∧
  (∀ i v, xs[i]? = some v → tb (startF N [v] (js.map (slotAt σ))) H fun y => y = .int (kf i)) ∧ ∀ i v, xs[i]? = some v → First kf xs.length i → Q v H
theorem ck_minL {N fr : List Str} {js : List Nat} {a : Str} {mk : Addr → LF} {tb : TX} {k : Nat} (hc : X.calm = true) (M : LamK X N fr js a mk tb) (hr : Room (k + 2) X.A) :
    CallRKS X (.builtin "min") [Str.ofString "key"] (rMinL X.K N js mk tb) := by
  intro pins s σ H vs zs us ws Q I rx rz h
  obtain ⟨l, f, c', xs, kf, rfl, rfl, hf, hco, hs, hne, ht, hq⟩ := h
  obtain ⟨its, rv, hl, _⟩ := I.list hs
  rw [Vals.ref1 rx, Vals.ref1 rz]
  have rl := rv.length
  refine min_key (vs := its) kf (I.ok.hd hc) hl.isList (by omega) (fun i u hu h tk X1 => ?_) fun i u h' tk' hu hfst X1 => ?_
  · obtain ⟨v, hv⟩ : ∃ v, xs[i]? = some v := ⟨_, List.getElem?_eq_getElem (by have := (List.getElem?_eq_some_iff.mp hu).1; omega)⟩
    obtain ⟨u', hu', r⟩ := rv.get hv
    rw [hu] at hu'
    cases hu'
    have I1 : Inv X pins σ H { s with heap := h, toks := tk } := I.kept X1
    refine wpAny_mono (lam_pure (k := k) (A' := X.A.in1) I1 (M.sc c') (M.caps I.ok c') hf (by rw [M.cc]; exact hco) (M.bind c') (M.body f c') hr.in1 I.ok.frames r (ht i v hv)) (fun y s' ⟨k1, z, rz, ez⟩ => ⟨k1, ?_⟩) fun _ _ h => h
    subst ez
    exact rz
  · obtain ⟨v, hv⟩ : ∃ v, xs[i]? = some v := ⟨_, List.getElem?_eq_getElem (by have := (List.getElem?_eq_some_iff.mp hu).1; omega)⟩
    obtain ⟨u', hu', r⟩ := rv.get hv
    rw [hu] at hu'
    cases hu'
    exact ⟨v, H, I.kept X1, r, hq i v hv (by rw [rl]; exact hfst)⟩
/-- sorted(xs, key=lambda a: ..), the keys numbers -/
def rSortL (K : PySem.W.Frag) (N : List Str) (js : List Nat) (mk : Addr → LF) (tb : TX) : L2.St → List V → List V → Hp → VK → Prop := fun σ vs zs H Q => ∃ (a f c' : Addr) (bs : List (V × Int)), vs = [.ref a] ∧ zs = [.ref f] ∧ H f = some (LamO f (mk c')) ∧ H c' = some (CodeO c' (mk c').q) ∧ SqL K H a (bs.map (·.1)) ∧
  (∀ b ∈ bs, tb (startF N [b.1] (js.map (slotAt σ))) H fun y => y = .int b.2) ∧ ∀ p, H p = none → Q (.ref p) (upd H p (.lst ((bs.mergeSort fun x y => decide (x.2 ≤ y.2)).map (·.1))))
theorem each_vals : ∀ {bs : List (V × Int)} {us : List Value}, Vals (bs.map (·.1)) us → PySem.W.EachIs (fun u (b : V × Int) => L2.RelV b.1 u) us bs
  | [], [], .nil => .nil
  | _ :: _, _ :: _, .cons r t => .cons r (each_vals t)
theorem vals_each : ∀ {us : List Value} {bs : List (V × Int)}, PySem.W.EachIs (fun u (b : V × Int) => L2.RelV b.1 u) us bs → Vals (bs.map (·.1)) us
  | [], [], .nil => .nil
  | _ :: _, _ :: _, .cons r t => .cons r (vals_each t)
theorem ck_sortL {N fr : List Str} {js : List Nat} {a : Str} {mk : Addr → LF} {tb : TX} {k : Nat} (hc : X.calm = true) (M : LamK X N fr js a mk tb) (hr : Room (k + 3) X.A) :
    CallRKS X (.builtin "sorted") [Str.ofString "key"] (rSortL X.K N js mk tb) := by
  intro pins s σ H vs zs us ws Q I rx rz h
  obtain ⟨l, f, c', bs, rfl, rfl, hf, hco, hs, ht, hq⟩ := h
  obtain ⟨its, rv, hl, hz⟩ := I.list hs
  rw [Vals.ref1 rx, Vals.ref1 rz]
  have rl := rv.length
  rw [List.length_map] at hz
  refine PySem.W.sorted_key_data (β := V × Int) (bs := bs) (b := false) (fun b => .int b.2) hl.isList (each_vals rv) ?_ (.inr fun d hd => ?_) hz (fun x _ => ?_) (ksk_s1 _ _) (fun _ => ksk_l1 _ _) (fun x => ksk_t1 f x) (fun u v r hv h tk X1 => ?_) fun out c h' tk X1 hn ho hlen he => ?_
  · intro d hd d' hd'
    obtain ⟨v, _, rfl⟩ := List.mem_map.mp hd
    obtain ⟨v', _, rfl⟩ := List.mem_map.mp hd'
    rfl
  · obtain ⟨v, _, rfl⟩ := List.mem_map.mp hd
    exact ⟨(fun z => nomatch z), fun xs z => nomatch z⟩
  · have := hr.un
    show X.A.units + 2 + 0 < _
    omega
  · have I1 : Inv X pins σ H { s with heap := h, toks := tk } := I.kept X1
    refine wpAny_mono (lam_pure (k := k) (A' := X.A.in1.in1) I1 (M.sc c') (M.caps I.ok c') hf (by rw [M.cc]; exact hco) (M.bind c') (M.body f c') hr.in1.in1 I.ok.frames r (ht v hv)) (fun y s' ⟨k1, z, rz, ez⟩ => ?_) fun _ _ h => h
    subst ez
    obtain ⟨t, rfl⟩ := rz
    obtain ⟨h2, t2, rfl, k2⟩ := k1
    exact ⟨h2, t2, rfl, k2, .int _ _⟩
  · rw [PySem.W.dataLe_int] at he
    have nH : H (s.heap.objs.size + 1) = none := I.hok.fresh (Nat.le_succ _)
    refine ⟨.ref _, _, I.laid (a := s.heap.objs.size + 1) (o := .lst ((bs.mergeSort fun x y => decide (x.2 ≤ y.2)).map (·.1))) (t' := tk) X1 (Nat.le_succ _) ⟨?_, out, c, vals_each he, ho⟩, rfl, hq _ nH⟩
    rw [List.length_map, List.length_mergeSort]
    exact hz
end
/-- the lambda of this text, made in the context X -/
abbrev mkL (X : Cx) (params : Arguments) (body : Expr) (scope : Scope) : Addr → LF := fun c' => ⟨X.env.qual ++ "<lambda>", params, body, scope, cloFrom X.env.cells scope.names [], c'⟩
theorem lamK_of {X : Cx} {N fr : List Str} {js : List Nat} {a : Str} {params : Arguments} {body : Expr} {scope : Scope} {tb : TX} (hS : nscB N [a] fr scope = true) (hF : ndefB X.env.scope scope fr = true) (hj : js.map (fun j => X.N[j]?) = fr.map some)
    (hbind : ∀ (q : Str) (cl : List (Str × Addr)) (pm cv ctv u : Value), bindArgs (PySem.W.kla_fn "<lambda>" q params body scope cl pm cv ctv) ⟨[u], []⟩ = pure [(a, u)])
    (hbody : ∀ (f c : Addr) (A : Around) (outer : List Env) (s : Shared) (H : Hp), PX (ncx C8.CX0 X.prog X.w X.K X.mg X.base N (mkL X params body scope c).nf f A outer s H C8.E0) body tb) : LamK X N fr js a (mkL X params body scope) tb :=
  ⟨fun _ => nscope_by hS, fun ok _ => Caps.made ok (ndef_free hF) (ndef_fr hF) hj, fun _ => rfl, fun _ => hbind, hbody⟩
section
variable {X : Cx} {e : Expr} {te : TE} {T : List (Addr × Str)} {c P : Addr} {N fr : List Str} {js : List Nat} {a : Str} {params : Arguments} {body : Expr} {scope : Scope} {tb : TX} {k j : Nat} {p pos lpos kpos : Pos}
/-- min(e, key=lambda a: ..) -/
theorem pe_minL (hc : X.calm = true) (hg : Gl X "min") (hm : X.mg "min" = none) (he : PE X e te) (hr : Room j X.A) (hk : k + 2 ≤ j) (TB : TabB X.base X.mg c P) (hcode : X.env.code = .ref c) (hmT : (P, X.env.qual ++ "<lambda>") ∈ T) (hu : ∀ p ∈ T, p.1 = P → p.2 = X.env.qual ++ "<lambda>")
    (hdef : defaultsOf params X.env = ([], [])) (hS : nscB N [a] fr scope = true) (hF : ndefB X.env.scope scope fr = true) (hj : js.map (fun j => X.N[j]?) = fr.map some)
    (hbind : ∀ (q : Str) (cl : List (Str × Addr)) (pm cv ctv u : Value), bindArgs (PySem.W.kla_fn "<lambda>" q params body scope cl pm cv ctv) ⟨[u], []⟩ = pure [(a, u)])
    (hbody : ∀ (f c : Addr) (A : Around) (outer : List Env) (s : Shared) (H : Hp), PX (ncx C8.CX0 X.prog X.w X.K X.mg X.base N (mkL X params body scope c).nf f A outer s H C8.E0) body tb)
    (hv : bootBuiltins "min" = some (.builtin "min") := by rfl)
    (hs0 : starEach [e] X.env = (false, eval e X.env) :: starEach [] X.env := by rfl) (hs : backTo pos (starEach [e] X.env) = (false, eval e X.env) :: backTo pos (starEach [] X.env) := by rfl) (hpl : (backTo pos (starEach [e] X.env)).any (·.1) = false := by rfl)
    (hall : (backToKw pos (keywordEach [⟨some "key", .Lambda params body scope lpos, kpos⟩] X.env)).all (·.1.isSome) = true := by rfl) (hnone : (backToKw pos (keywordEach [⟨some "key", .Lambda params body scope lpos, kpos⟩] X.env)).any (·.1.isNone) = false := by rfl)
    (hks : (backToKw pos (keywordEach [⟨some "key", .Lambda params body scope lpos, kpos⟩] X.env)).filterMap (·.1) = [Str.ofString "key"] := by rfl) :
    PE X (.Call (.Name "min" p) [e] [⟨some "key", .Lambda params body scope lpos, kpos⟩] pos) (tCKwS (rMinL X.K N js (mkL X params body scope) tb) (tCons te tNil) (tCons (tLamX T (mkL X params body scope)) tNil)) :=
  pe_callBKS (ck_minL hc (lamK_of hS hF hj hbind hbody) (hr.mono hk)) hg hm hv (pa_cons (hs := hs0) he pa_nil) (pk_cons (pe_lamX TB hcode hmT hu hdef (ndef_free hF)) pk_nil) (he := hs) (hpl := hpl) (hall := hall) (hnone := hnone) (hks := hks)
/-- sorted(e, key=lambda a: ..) -/
theorem pe_sortL (hc : X.calm = true) (hg : Gl X "sorted") (hm : X.mg "sorted" = none) (he : PE X e te) (hr : Room j X.A) (hk : k + 3 ≤ j) (TB : TabB X.base X.mg c P) (hcode : X.env.code = .ref c) (hmT : (P, X.env.qual ++ "<lambda>") ∈ T) (hu : ∀ p ∈ T, p.1 = P → p.2 = X.env.qual ++ "<lambda>")
    (hdef : defaultsOf params X.env = ([], [])) (hS : nscB N [a] fr scope = true) (hF : ndefB X.env.scope scope fr = true) (hj : js.map (fun j => X.N[j]?) = fr.map some)
    (hbind : ∀ (q : Str) (cl : List (Str × Addr)) (pm cv ctv u : Value), bindArgs (PySem.W.kla_fn "<lambda>" q params body scope cl pm cv ctv) ⟨[u], []⟩ = pure [(a, u)])
    (hbody : ∀ (f c : Addr) (A : Around) (outer : List Env) (s : Shared) (H : Hp), PX (ncx C8.CX0 X.prog X.w X.K X.mg X.base N (mkL X params body scope c).nf f A outer s H C8.E0) body tb)
    (hv : bootBuiltins "sorted" = some (.builtin "sorted") := by rfl)
    (hs0 : starEach [e] X.env = (false, eval e X.env) :: starEach [] X.env := by rfl) (hs : backTo pos (starEach [e] X.env) = (false, eval e X.env) :: backTo pos (starEach [] X.env) := by rfl) (hpl : (backTo pos (starEach [e] X.env)).any (·.1) = false := by rfl)
    (hall : (backToKw pos (keywordEach [⟨some "key", .Lambda params body scope lpos, kpos⟩] X.env)).all (·.1.isSome) = true := by rfl) (hnone : (backToKw pos (keywordEach [⟨some "key", .Lambda params body scope lpos, kpos⟩] X.env)).any (·.1.isNone) = false := by rfl)
    (hks : (backToKw pos (keywordEach [⟨some "key", .Lambda params body scope lpos, kpos⟩] X.env)).filterMap (·.1) = [Str.ofString "key"] := by rfl) :
    PE X (.Call (.Name "sorted" p) [e] [⟨some "key", .Lambda params body scope lpos, kpos⟩] pos) (tCKwS (rSortL X.K N js (mkL X params body scope) tb) (tCons te tNil) (tCons (tLamX T (mkL X params body scope)) tNil)) :=
  pe_callBKS (ck_sortL hc (lamK_of hS hF hj hbind hbody) (hr.mono hk)) hg hm hv (pa_cons (hs := hs0) he pa_nil) (pk_cons (pe_lamX TB hcode hmT hu hdef (ndef_free hF)) pk_nil) (he := hs) (hpl := hpl) (hall := hall) (hnone := hnone) (hks := hks)
end
end Rt

set_option autoImplicit false
namespace Rt
open PySem PySem.Spec PyProof.Rows L2 RZ TL LamX NdefX
variable [TabsT]
/-! ### a lambda's body over data: its slots hold ds -/
abbrev ZX := List (Option Z) → (Z → Prop) → Prop
def XS (K : PySem.W.Frag) (t : TX) (z : ZX) : Prop := ∀ (σ : L2.St) (H : Hp) (ds : List (Option Z)) (k : Z → Prop) (Q : V → Prop),
  (∀ (i : Nat) (y : Z), ds[i]? = some (some y) → ∃ v, σ[i]? = some (some v) ∧ Zp K H v y) → (∀ y v, k y → Zp K H v y → Q v) → z ds k → t σ H Q
def zxVar (i : Nat) : ZX := fun ds k => ∃ y, ds[i]? = some (some y) ∧ k y
theorem xs_var {K : PySem.W.Frag} (i : Nat) : XS K (xVar i) (zxVar i) := fun σ H ds k Q hd hq ⟨y, e, hk⟩ => by
  obtain ⟨v, h1, h2⟩ := hd i y e
  exact ⟨v, h1, hq y v hk h2⟩
def zxSub (za zb : ZX) : ZX := fun ds k => za ds fun a => zb ds fun b => ∃ i j : Int, a = .int i ∧ b = .int j ∧ k (.int (i - j))
theorem xs_sub {K : PySem.W.Frag} {ta tb : TX} {za zb : ZX} (ha : XS K ta za) (hb : XS K tb zb) : XS K (xSub ta tb) (zxSub za zb) := fun σ H ds k Q hd hq h =>
  ha σ H ds _ _ hd (fun a v q pa => hb σ H ds _ _ hd (fun b u q pb => by
    obtain ⟨i, j, rfl, rfl, hk⟩ := q
    exact ⟨i, j, zp_int pa, zp_int pb, hq _ _ hk (.int _)⟩) q) h
def zxAbs (za : ZX) : ZX := fun ds k => za ds fun a => ∃ i : Int, a = .int i ∧ k (.int (if i < 0 then -i else i))
theorem xs_abs {K : PySem.W.Frag} {ta : TX} {za : ZX} (ha : XS K ta za) : XS K (xAbs ta) (zxAbs za) := fun σ H ds k Q hd hq h =>
  ha σ H ds _ _ hd (fun a v q pa => by
    obtain ⟨i, rfl, hk⟩ := q
    exact ⟨i, zp_int pa, hq _ _ hk (.int _)⟩) h
def zxIxT (i : Int) (za : ZX) : ZX := fun ds k => za ds fun a => match a with
  | .tup l => ∃ y, atI l i = some y ∧ k y
  | _ => False
theorem sqT_up {K : PySem.W.Frag} {H : Hp} {a : Addr} {xs : List V} (h : SqT K (fun _ => none) a xs) : SqT K H a xs := h.elim (fun z => by rcases z with z | ⟨_, z⟩ <;> cases z) .inr
theorem xs_ixT {K : PySem.W.Frag} {i : Int} {ta : TX} {za : ZX} (ha : XS K ta za) : XS K (xIxT K i ta) (zxIxT i za) := fun σ H ds k Q hd hq h =>
  ha σ H ds _ _ hd (fun a v q pa => by
    split at q
    · rename_i l
      obtain ⟨y, e, hk⟩ := q
      obtain ⟨p, vs, rfl, h1, h2⟩ := zp_tup pa
      obtain ⟨u, e1, e2⟩ := zps_atI h2 e
      exact ⟨p, vs, u, rfl, h1, e1, hq _ _ hk e2⟩
    · exact q.elim) h
section
variable {fr : Fr} {F F' : Hp} {Γ : G} {T A : List (V × B)} {σ : L2.St} {H H' : Hp} {S S' : Addr → Own} {mg : Str → Option Value}
theorem Rel.tabled (R : Rel fr F Γ T σ H) (e : ExtN H H') (nb : ∀ b, H' b = Option.none → H b = Option.none) (ht : Tabs TabsT.T H') : Rel fr F Γ T σ H' :=
  R.grown ⟨fun b o h n => e b o h fun ps z => (by rw [z] at n; cases n), fun b h z => h (nb b z), ht⟩
/-- what the lambda's slots hold: its argument, then the captured slots -/
def bz (Γ : G) (j : Nat) : Option Z := match Γ[j]? with
  | some (some b) => b.z
  | _ => none
def ldata (Γ : G) (js : List Nat) (y : Z) : List (Option Z) := some y :: js.map (bz Γ)
theorem ldata_at {N : List Str} {js : List Nat} {v : V} {y : Z} (R : Rel fr F Γ T σ H) (hv : Zp fr.K H v y) : ∀ (i : Nat) (x : Z), (ldata Γ js y)[i]? = some (some x) → ∃ u, (startF N [v] (js.map (slotAt σ)))[i]? = some (some u) ∧ Zp fr.K H u x := by
  intro i x e
  cases i with
  | zero => cases e; exact ⟨v, rfl, hv⟩
  | succ i =>
    have e : (js.map (bz Γ))[i]? = some (some x) := e
    rw [List.getElem?_map] at e
    cases ej : js[i]? with
    | none => rw [ej] at e; cases e
    | some j =>
      rw [ej] at e
      have e : some (bz Γ j) = some (some x) := e
      have e := Option.some.inj e
      unfold bz at e
      split at e
      · rename_i b hb
        obtain ⟨S, R⟩ := R
        obtain ⟨u, h1, h2⟩ := R.sl j b hb
        refine ⟨u, ?_, Zp.up vw_ex (h2.all e)⟩
        unfold startF
        show ([some v] ++ (js.map (slotAt σ) ++ _))[i + 1]? = _
        show (js.map (slotAt σ) ++ _)[i]? = _
        have hl : i < (js.map (slotAt σ)).length := by rw [List.length_map]; exact (List.getElem?_eq_some_iff.mp ej).1
        rw [List.getElem?_append_left hl, List.getElem?_map, ej]
        show some (slotAt σ j) = some (some u)
        rw [slotAt_of h1]
      · cases e
/-- min(xs, key=lambda ..): the first of the least -/
def zMinL (js : List Nat) (zl : ZE) (zb : ZX) : ZE := fun Γ k => zl Γ fun b => ∃ (l : List Z) (kf : Nat → Int), b.z = some (.lst l) ∧ 0 < l.length ∧ (∀ i y, l[i]? = some y → y.imm = true ∧ zb (ldata Γ js y) fun r => r = .int (kf i)) ∧
  ∀ i y, l[i]? = some y → First kf l.length i → k (.set y)
theorem z_minL {N : List Str} {js : List Nat} {mk : Addr → LF} {tb : TX} {zb : ZX} {te : TE} {ze : ZE} (cc : ∀ c, (mk c).c = c) (he : SE fr te ze) (hb : XS fr.K tb zb) :
    SE fr (tCKwS (rMinL fr.K N js mk tb) (tCons te tNil) (tCons (tLamX TabsT.T mk) tNil)) (zMinL js ze zb) := by
  intro F Γ T σ H Q k R0 kq q
  refine he F Γ T σ H _ _ R0 (fun b hb0 v H1 R1 => ?_) q
  obtain ⟨l, kf, e1, hl, hk, hq⟩ := hb0
  refine ⟨R1.tabs, fun f c' H2 eN nb ht hf hlam hco => ?_⟩
  have R2 := R1.tabled eN nb ht
  obtain ⟨a, vs, rfl, h1, h2⟩ := zp_lst (R2.zp (j := 0) rfl e1)
  have ln := h2.len
  refine ⟨a, f, c', vs, kf, rfl, rfl, hlam, hco, SqL.of h1, by omega, fun i u hu => ?_, fun i u hu hfst => ?_⟩
  · obtain ⟨y, e2, hy⟩ := zps_atv h2 hu
    refine hb _ H2 _ _ _ (ldata_at R2 hy) (fun r w er hw => ?_) (hk i y e2).2
    subst er
    exact zp_int hw
  · obtain ⟨y, e2, hy⟩ := zps_atv h2 hu
    obtain ⟨S, R3⟩ := Rel.drop (A := [_]) R2
    refine kq _ (hq i y e2 (by rw [← ln]; exact hfst)) _ _ ⟨S, RelS.same (A := []) (by rw [List.append_nil]; exact R3) ?_⟩
    exact hy.imm vw_tupH (hk i y e2).1
/-- sorted(xs, key=lambda ..), the keys numbers: stable -/
def zSortL (js : List Nat) (zl : ZE) (zb : ZX) : ZE := fun Γ k => zl Γ fun b => ∃ (l : List Z) (kf : Z → Int), b.z = some (.lst l) ∧ Z.imms l = true ∧ (∀ y ∈ l, zb (ldata Γ js y) fun r => r = .int (kf y)) ∧
  k (.own (.lst (l.mergeSort fun x y => decide (kf x ≤ kf y))))
theorem zps_pairs {K : PySem.W.Frag} {H : Hp} : ∀ (ps : List (V × Z)), (∀ p ∈ ps, Zp K H p.1 p.2) → Zps K H (ps.map (·.1)) (ps.map (·.2))
  | [], _ => .nil
  | p :: ps, h => .cons (h p (.head _)) (zps_pairs ps fun q hq => h q (.tail _ hq))
theorem zps_zip {K : PySem.W.Frag} {H : Hp} : ∀ {vs : List V} {l : List Z}, Zps K H vs l → ∀ p ∈ vs.zip l, Zp K H p.1 p.2
  | _, _, .nil, p, hp => by simp at hp
  | _, _, .cons h r, p, hp => by
    rcases List.mem_cons.mp hp with rfl | hp
    · exact h
    · exact zps_zip r p hp
theorem imms_mem {l : List Z} (h : Z.imms l = true) : ∀ y ∈ l, y.imm = true := by
  induction l with
  | nil => intro y hy; cases hy
  | cons a l ih =>
    have h : (a.imm && Z.imms l) = true := h
    rw [Bool.and_eq_true] at h
    intro y hy
    rcases List.mem_cons.mp hy with rfl | hy
    · exact h.1
    · exact ih h.2 y hy
theorem imms_of {l : List Z} (h : ∀ y ∈ l, y.imm = true) : Z.imms l = true := by
  induction l with
  | nil => rfl
  | cons a l ih =>
    show (a.imm && Z.imms l) = true
    rw [Bool.and_eq_true]
    exact ⟨h a (.head _), ih fun y hy => h y (.tail _ hy)⟩
theorem z_sortL {N : List Str} {js : List Nat} {mk : Addr → LF} {tb : TX} {zb : ZX} {te : TE} {ze : ZE} (he : SE fr te ze) (hb : XS fr.K tb zb) :
    SE fr (tCKwS (rSortL fr.K N js mk tb) (tCons te tNil) (tCons (tLamX TabsT.T mk) tNil)) (zSortL js ze zb) := by
  intro F Γ T σ H Q k R0 kq q
  refine he F Γ T σ H _ _ R0 (fun b hb0 v H1 R1 => ?_) q
  obtain ⟨l, kf, e1, hi, hk, hq⟩ := hb0
  refine ⟨R1.tabs, fun f c' H2 eN nb ht hf hlam hco => ?_⟩
  have R2 := R1.tabled eN nb ht
  obtain ⟨a, vs, rfl, h1, h2⟩ := zp_lst (R2.zp (j := 0) rfl e1)
  have ln := h2.len
  obtain ⟨P, eP⟩ : ∃ P, P = vs.zip l := ⟨_, rfl⟩
  have p1 : P.map (·.1) = vs := by rw [eP]; exact List.map_fst_zip (by omega)
  have p2 : P.map (·.2) = l := by rw [eP]; exact List.map_snd_zip (by omega)
  have pz : ∀ p ∈ P, Zp fr.K H2 p.1 p.2 := by rw [eP]; exact zps_zip h2
  have pm : ∀ p ∈ P, p.2 ∈ l := fun p hp => by rw [← p2]; exact List.mem_map.mpr ⟨p, hp, rfl⟩
  have em : (P.map fun p => (p.1, kf p.2)).map (·.1) = vs := by rw [List.map_map]; exact p1
  refine ⟨a, f, c', P.map fun p => (p.1, kf p.2), rfl, rfl, hlam, hco, by rw [em]; exact SqL.of h1, fun b hbm => ?_, fun p hp => ?_⟩
  · obtain ⟨x, hx, rfl⟩ := List.mem_map.mp hbm
    refine hb _ H2 _ _ _ (ldata_at R2 (pz x hx)) (fun r w er hw => ?_) (hk x.2 (pm x hx))
    subst er
    exact zp_int hw
  · have s1 : ((P.map fun p => (p.1, kf p.2)).mergeSort fun x y => decide (x.2 ≤ y.2)).map (·.1) = (P.mergeSort fun x y => decide (kf x.2 ≤ kf y.2)).map (·.1) := by
      rw [← List.map_mergeSort (r := fun x y : V × Z => decide (kf x.2 ≤ kf y.2)) (f := fun p : V × Z => (p.1, kf p.2)) (fun _ _ _ _ => rfl), List.map_map]
      rfl
    have s2 : (P.mergeSort fun x y => decide (kf x.2 ≤ kf y.2)).map (·.2) = l.mergeSort fun x y => decide (kf x ≤ kf y) := by
      rw [List.map_mergeSort (s := fun x y : Z => decide (kf x ≤ kf y)) (fun _ _ _ _ => rfl), p2]
    have qz : ∀ p ∈ P.mergeSort (fun x y => decide (kf x.2 ≤ kf y.2)), Zp fr.K H2 p.1 p.2 := fun p hp => pz p (List.mem_mergeSort.mp hp)
    have zz := zps_pairs _ qz
    rw [s2] at zz
    rw [s1]
    refine kq _ hq _ _ (Rel.newL R2 hp fun S R S' H' hk' hS => ?_)
    exact zz.imm (fun b xs e => vw_at (hk' _ _ e rfl) rfl (.inl rfl)) (imms_of fun y hy => imms_mem hi y (List.mem_mergeSort.mp hy))
end
section
variable {P : Program} {w : World} {K : PySem.W.Frag} {mg : Str → Option Value} {base : Heap} {x qual : Str} {st : Stmt} {f cc : Addr} {fd : FuncData} {N ps : List Str} {k : Nat}
/-- a def that turns nothing, and makes lambdas -/
theorem okZC {R : RZs} (F : Fun K x qual st f fd) (hcode : fd.code = .ref cc) (S : FnScope N ps (defScope st)) (hlen : ∀ zs k e, R zs k e → zs.length = ps.length)
    (hbody : ∀ (A : Around) (outer : List Env) (s : Shared) (H E0 : Hp) (E : XK), Room k (A.deeper (envOfC qual (defScope st) s.heap.objs.size f (.ref cc))) →
      ∃ t z, PSs (cxOf CX0 P w K mg base N qual (defScope st) f (.ref cc) A outer s H E).nox (defBody st) t ∧ SS (frP K E0 H) t z ∧ ∀ zs k, R zs k (fun _ => False) → z (zEnd k) (startG N (zs.map B.set)))
    (hm : ∀ zs k e, R zs k e → R zs k (fun _ => False)) : FnOk P w K mg base CX0 (k + 1) f fd ps (spZ K mg R) := by
  refine okC F hcode S (fun vs H Q E h => ?_) (fun A outer s H vs Q E hr h => ?_)
  · obtain ⟨E0, zs, k, e, h1, h2, h3, h4, _⟩ := h
    rw [h3.len]
    exact hlen zs k e h4
  · obtain ⟨E0, zs, kk, e, h1, h2, h3, h4, h5, _⟩ := h
    obtain ⟨t, z, ht, hz, hb⟩ := hbody A outer s H E0 E hr
    refine ⟨t, ht, hz (fun _ => none) _ _ _ (zEnd kk) _ (start_rel h1 h2 h3) ⟨fun Γ σ H' R' q => ?_, fun _ _ _ _ q => q.elim, fun _ _ _ _ q => q.elim, fun Γ v b σ H' R' q => ?_⟩ (hb zs kk (hm zs kk e h4))⟩
    · obtain ⟨S, R'⟩ := R'
      exact h5 _ q _ _ ⟨S, R'.go, .non⟩
    · obtain ⟨c, c1, c2⟩ := q
      obtain ⟨S, g1, g2, _⟩ := Rel.ret R' c1 fun S R x i h => (R.go.ownS x i h).elim id fun z => z.elim
      exact h5 c c2 _ _ ⟨S, g1, g2⟩
end
end Rt

/-! [e for .. in .. for .. in ..] over data -/
namespace Rt
open PySem PySem.Spec PyProof.Rows L2 RZ LamX
variable [TabsT]
section
variable {fr : Fr} {F F' : Hp} {Γ : G} {T A : List (V × B)} {σ : L2.St} {H H' : Hp} {S S' : Addr → Own}
/-- the inner walk: P1 tells what is gathered -/
structure In2 (turn : Z → (Z → Prop) → Prop → Prop) (zs : List Z) (acc : List Z) (K : List Z → Prop) : Prop where
  len : zs.length ≤ 1000000
  ex : ∃ P : Nat → List Z → Prop, P 0 acc ∧ (∀ i z a, zs[i]? = some z → P i a → a.length < 1000000 ∧ turn z (fun y => P (i + 1) (a ++ [y])) (P (i + 1) a)) ∧ ∀ a, P zs.length a → K a
/-- the outer walk -/
structure Out2 (turn : Z → List Z → (List Z → Prop) → Prop) (zs : List Z) (K : List Z → Prop) : Prop where
  len : zs.length ≤ 1000000
  ex : ∃ P : Nat → List Z → Prop, P 0 [] ∧ (∀ i z a, zs[i]? = some z → P i a → turn z a (P (i + 1))) ∧ ∀ a, P zs.length a → K a
def lcTurn2 (g : ZG) (zt : ZT) (w1 : ZI) (g1 : ZG) (zt1 : ZT) (ze : ZE) (vs vs1 : List Nat) (Γ : G) : Z → List Z → (List Z → Prop) → Prop := fun z acc kn => g (.set z) (gw Γ vs) fun Γ2 => gw Γ2 vs = Γ ∧ zt Γ2 fun c => zite c (w1 Γ2 fun zs1 => In2 (lcTurn g1 zt1 ze vs1 Γ2) zs1 acc kn) (kn acc)
def zLc2 (w : ZI) (g : ZG) (zt : ZT) (w1 : ZI) (g1 : ZG) (zt1 : ZT) (ze : ZE) (vs vs1 : List Nat) : ZE := fun Γ k => w Γ fun zs => Out2 (lcTurn2 g zt w1 g1 zt1 ze vs vs1 Γ) zs fun acc => k (.own (.lst acc))
theorem z_lc2 {w w1 : TI} {zw zw1 : ZI} {g g1 : TG} {zg zg1 : ZG} {tt tt1 : TT} {zt zt1 : ZT} {te : TE} {ze : ZE} {vs vs1 : List Nat} (hw : SI fr w zw) (hg : SG fr g zg) (gwf : GW vs g) (ht : ST fr tt zt) (hw1 : SI fr w1 zw1) (hg1 : SG fr g1 zg1) (gwf1 : GW vs1 g1) (ht1 : ST fr tt1 zt1) (he : SE fr te ze) :
    SE fr (tLc2 w g tt w1 g1 tt1 te vs vs1) (zLc2 zw zg zt zw1 zg1 zt1 ze vs vs1) := by
  intro F Γ T σ H Q k R kq q
  refine hw F Γ T σ H _ _ R (fun zs hz F' J H1 hF R1 hJ => ?_) q
  obtain ⟨hl, P, p0, pt, pe⟩ := hz
  intro D hD
  have R2 : Rel fr F' Γ (T ++ [(.ref D, B.own (.lst []))]) σ (upd H1 D (.lst [])) := Rel.newL (A := []) (by rw [List.append_nil]; exact R1) hD fun _ _ _ _ _ _ => .nil
  refine ⟨fun i m H' => m = zs.length - i ∧ i ≤ zs.length ∧ ∃ acc : List Z, Rel fr F' Γ (T ++ [(.ref D, B.own (.lst acc))]) σ H' ∧ P i acc, ⟨zs.length, rfl, Nat.zero_le _, [], R2, p0⟩, ?_⟩
  rintro i m H2 ⟨rfl, hi, acc, R3, p1⟩
  by_cases hlt : i < zs.length
  · let Nx : Hp → Prop := fun H' => ∃ acc : List Z, Rel fr F' Γ (T ++ [(.ref D, B.own (.lst acc))]) σ H' ∧ P (i + 1) acc
    refine .inr ⟨hJ.go i H2 hlt R3.le, Nx, fun H' ⟨acc, R', p'⟩ => ⟨zs.length - (i + 1), by omega, rfl, hlt, acc, R', p'⟩, fun x H3 hy => ?_⟩
    have R4 := (hJ.yld i zs[i] Γ _ σ H2 H3 x (List.getElem?_eq_getElem hlt) R3 hy).wipe vs
    let body : L2.St → Hp → Prop := fun σ2 H4 => tt σ2 H4 fun b H3 =>
      if b = true then w1 σ2 H3 fun J1 H4 => ∃ W1 : Nat → Nat → Hp → Prop, (∃ m, W1 0 m H4) ∧ ∀ j k H, W1 j k H →
        (J1.stop j H ∧ Nx H) ∨ (J1.go j H ∧ ∃ Nx1 : Hp → Prop, (∀ H', Nx1 H' → ∃ k', k' < k ∧ W1 (j + 1) k' H') ∧ ∀ x H', J1.yld j H x H' → g1 x (wipe σ2 vs1) H' fun σ3 H5 => wipe σ3 vs1 = wipe σ2 vs1 ∧ tt1 σ3 H5 fun b H6 =>
          if b = true then te σ3 H6 fun y H7 => ∃ acc, H7 D = some (.lst acc) ∧ acc.length < sizeLine ∧ Nx1 (upd H7 D (.lst (acc ++ [y]))) else Nx1 H6)
      else Nx H3
    have st := hg F' (gw Γ vs) _ (L2.wipe σ vs) H3 x _ (fun σ2 H4 => L2.wipe σ2 vs = L2.wipe σ vs → body σ2 H4) _ R4 (fun Γ2 q2 σ2 H4 R5 ew => ?_) (pt i _ acc (List.getElem?_eq_getElem hlt) p1)
    · refine gwf _ _ _ _ _ (fun σ' H' e q => ?_) st
      have e2 : L2.wipe σ' vs = L2.wipe σ vs := e.trans (wipe_wipe σ vs vs fun _ h => h)
      exact ⟨e2, q e2⟩
    · refine ht F' Γ2 _ σ2 H4 _ _ R5 (fun c hc H5 R6 => ?_) q2.2
      cases c with
      | false => exact ⟨acc, R6.back q2.1 ew, hc.2 rfl⟩
      | true =>
        refine hw1 F' Γ2 _ σ2 H5 _ _ R6 (fun zs1 hz1 F1 J1 H6 hF1 R7 hJ1 => ?_) (hc.1 rfl)
        obtain ⟨hl1, P1, p10, pt1, pe1⟩ := hz1
        refine ⟨fun j m H' => m = zs1.length - j ∧ j ≤ zs1.length ∧ ∃ a : List Z, Rel fr F1 Γ2 (T ++ [(.ref D, B.own (.lst a))]) σ2 H' ∧ P1 j a, ⟨zs1.length, rfl, Nat.zero_le _, acc, R7, p10⟩, ?_⟩
        rintro j m H7 ⟨rfl, hj, a, R8, p11⟩
        by_cases hlt1 : j < zs1.length
        · refine .inr ⟨hJ1.go j H7 hlt1 R8.le, fun H' => ∃ a : List Z, Rel fr F1 Γ2 (T ++ [(.ref D, B.own (.lst a))]) σ2 H' ∧ P1 (j + 1) a, fun H' ⟨a, R', p'⟩ => ⟨zs1.length - (j + 1), by omega, rfl, hlt1, a, R', p'⟩, fun x1 H8 hy1 => ?_⟩
          have R9 := (hJ1.yld j zs1[j] Γ2 _ σ2 H7 H8 x1 (List.getElem?_eq_getElem hlt1) R8 hy1).wipe vs1
          obtain ⟨la, tr⟩ := pt1 j _ a (List.getElem?_eq_getElem hlt1) p11
          have st1 := hg1 F1 (gw Γ2 vs1) _ (L2.wipe σ2 vs1) H8 x1 _ (fun σ3 H9 => L2.wipe σ3 vs1 = L2.wipe σ2 vs1 → tt1 σ3 H9 fun b H6 =>
            if b = true then te σ3 H6 fun y H7 => ∃ acc, H7 D = some (.lst acc) ∧ acc.length < sizeLine ∧ (fun H' => ∃ a : List Z, Rel fr F1 Γ2 (T ++ [(.ref D, B.own (.lst a))]) σ2 H' ∧ P1 (j + 1) a) (upd H7 D (.lst (acc ++ [y]))) else (fun H' => ∃ a : List Z, Rel fr F1 Γ2 (T ++ [(.ref D, B.own (.lst a))]) σ2 H' ∧ P1 (j + 1) a) H6) _ R9 (fun Γ3 q3 σ3 H9 R10 ew1 => ?_) tr
          · refine gwf1 _ _ _ _ _ (fun σ' H' e q => ?_) st1
            have e2 : L2.wipe σ' vs1 = L2.wipe σ2 vs1 := e.trans (wipe_wipe σ2 vs1 vs1 fun _ h => h)
            exact ⟨e2, q e2⟩
          · refine ht1 F1 Γ3 _ σ3 H9 _ _ R10 (fun c1 hc1 H10 R11 => ?_) q3.2
            cases c1 with
            | true =>
              refine he F1 Γ3 _ σ3 H10 _ _ R11 (fun b hb y H11 R12 => ?_) (hc1.1 rfl)
              obtain ⟨z, hz, R12⟩ := Rel.tk R12 hb
              rw [List.append_assoc] at R12
              obtain ⟨ws, g1', g2', g3'⟩ := Rel.appT R12
              exact ⟨ws, g1', mem_lt (by omega), a ++ [z], g3'.back q3.1 ew1, hz⟩
            | false => exact ⟨a, R11.back q3.1 ew1, hc1.2 rfl⟩
        · obtain rfl : j = zs1.length := by omega
          exact .inl ⟨hJ1.stop _ H7 (Nat.le_refl _) R8.le, a, (R8.weak hF1).back q2.1 ew, pe1 a p11⟩
  · obtain rfl : i = zs.length := by omega
    exact .inl ⟨hJ.stop _ H2 (Nat.le_refl _) R3.le, kq _ (pe acc p1) _ _ (R3.weak hF)⟩
end
end Rt

/-! a list in the making whose items are lists of one's own -/
namespace Rt
open PySem PySem.Spec PyProof.Rows L2 RZ LamX
variable [TabsT]
section
variable {fr : Fr} {F F' : Hp} {Γ : G} {T A : List (V × B)} {σ : L2.St} {H H' : Hp} {S S' : Addr → Own}
theorem ChPs.snoc {K : PySem.W.Frag} {S : Addr → Own} {H : Hp} {me : Own} {v : V} {oa : Option Addr} {c : Ch} (h2 : ChP K S H me v oa c) : ∀ {vs : List V} {as : List (Option Addr)} {cs : List Ch}, ChPs K S H me vs as cs → ChPs K S H me (vs ++ [v]) (as ++ [oa]) (cs ++ [c])
  | [], [], [], _ => ⟨h2, trivial⟩
  | _ :: _, _ :: _, _ :: _, ⟨a, r⟩ => ⟨a, ChPs.snoc h2 r⟩
  | [], [], _ :: _, h => h.elim
  | [], _ :: _, cs, h => by cases cs <;> exact h.elim
  | _ :: _, [], cs, h => by cases cs <;> exact h.elim
  | _ :: _, _ :: _, [], h => h.elim
theorem Rel.appTwo {D : Addr} {cs : List Ch} {y : V} {b : B} {k : Ch → Prop} (R : Rel fr F Γ (T ++ [(.ref D, B.two (.l cs)), (y, b)]) σ H) (q : b.chf k) : ∃ vs c, k c ∧ H D = some (.lst vs) ∧ vs.length = cs.length ∧ Rel fr F Γ (T ++ [(.ref D, B.two (.l (cs ++ [c])))]) σ (upd H D (.lst (vs ++ [y]))) := by
  obtain ⟨S, R⟩ := R
  obtain ⟨p1, p2⟩ := Rel.two R
  obtain ⟨a, vs, as, e, s, hr, hc, nd⟩ := p1
  cases e
  have hr : H D = some (.lst vs) := hr
  obtain ⟨c, oa, kc, hcell, hf⟩ := P_chf (me' := .tmp T.length) p2 q
  obtain ⟨S1, eS⟩ : ∃ S1, S1 = retm T.length (.tmp T.length) S := ⟨_, rfl⟩
  have s1 : S1 D = .tmp T.length := by rw [eS]; exact retm_hi (Nat.le_refl _) s
  have le0 : Le (vw S H (eqO .set)) (vw S1 H (eqO .set)) := vw_le fun x o e n c => ⟨e, c.imp id fun c => decide_eq_true (by rw [eS]; exact retm_set (of_decide_eq_true c))⟩
  have hc1 : ChPs fr.K S1 H (.tmp T.length) vs as cs := hc.move le0 fun a o e t sa => ⟨by rw [eS]; exact retm_hi (Nat.le_refl _) sa, e⟩
  have hy : ChP fr.K S1 H (.tmp T.length) y oa c := hf S1 H (fun _ _ e _ => e) (fun x h c => by rw [eS]; exact retm_set c) (fun x h c => by rw [eS]; exact retm_hi (Nat.le_succ _) c)
  have R1 : RelS fr F Γ (T ++ [(.ref D, B.two (.l cs))]) σ H S1 := by
    rw [eS] at hc1 s1 ⊢
    exact R.ext (R.go.retm T.length (.inr ⟨_, rfl⟩)) (fun _ _ e _ => e) (fun x h c => retm_drw c) (fun x h c => retm_set c) (fun x i h c => retm_slot c) (fun x j h hj c => retm_lo hj c) ⟨D, vs, as, rfl, s1, hr, hc1, nd⟩
  have M := R1.mut (o' := .lst (vs ++ [y])) hr rfl rfl lst_no s1 (fun z => nomatch z) (fun z => nomatch z) (fun z => nomatch z)
  have nd' := List.nodup_cons.mp nd
  have nea : ∀ x ∈ as, x ≠ some D := fun x hx z => nd'.1 (List.mem_filterMap.mpr ⟨x, hx, z⟩)
  have ney : oa ≠ some D := fun z => by
    have h := (hcell D z).1
    rw [s] at h
    injection h with h
    omega
  have cc : cells (as ++ [oa]) = cells as ++ (match oa with | some x => [x] | none => []) := by
    unfold cells
    rw [List.filterMap_append]
    cases oa <;> rfl
  have ndn : (D :: cells (as ++ [oa])).Nodup := by
    rw [cc]
    cases oa with
    | none => rw [List.append_nil]; exact nd
    | some x =>
      refine List.nodup_cons.mpr ⟨fun h => ?_, List.nodup_append.mpr ⟨nd'.2, List.nodup_cons.mpr ⟨(fun h => nomatch h), List.nodup_nil⟩, fun u hu w hw e => ?_⟩⟩
      · rcases List.mem_append.mp h with h | h
        · exact nd'.1 h
        · exact ney (congrArg some (List.mem_singleton.mp h).symm)
      · have h1 := ChPs.own hc u hu
        have h2 := (hcell x rfl).1
        rw [e, List.mem_singleton.mp hw, h2] at h1
        injection h1 with h1
        omega
  refine ⟨vs, c, kc, hr, ChPs.len hc, S1, M.go, M.f, R1.len, fun j b e => ?_, fun j v b e => ?_, R1.nb⟩
  · obtain ⟨v, g1, g2⟩ := R1.sl j b e
    exact ⟨v, g1, M.b _ v b g2 (fun z => nomatch z) (fun st is z eb i hi z => nomatch z) fun i s eb z => nomatch z⟩
  · by_cases hj : j < T.length
    · rw [List.getElem?_append_left hj] at e
      exact M.b _ v b (R1.tm j v b (by rw [List.getElem?_append_left hj]; exact e)) (fun z => by cases z; exact Nat.lt_irrefl _ hj) (fun st is z eb k hk z => nomatch z) fun i s eb z => nomatch z
    · rw [List.getElem?_append_right (by omega)] at e
      have hj2 : j = T.length := by
        have := (List.getElem?_eq_some_iff.mp e).1
        have : j - T.length < 1 := this
        omega
      subst hj2
      rw [Nat.sub_self] at e
      cases e
      exact ⟨D, vs ++ [y], as ++ [oa], rfl, s1, upd_same, ChPs.snoc (hy.upd M.z ney) (ChPs.upd M.z nea hc1), ndn⟩
/-- the same walk, the items kept as things of one's own -/
structure LiT (turn : Z → (Ch → Prop) → Prop → Prop) (zs : List Z) (K : List Ch → Prop) : Prop where
  len : zs.length ≤ 1000000
  ex : ∃ P : Nat → List Ch → Prop, P 0 [] ∧ (∀ i z acc, zs[i]? = some z → P i acc → turn z (fun y => P (i + 1) (acc ++ [y])) (P (i + 1) acc)) ∧ ∀ acc, P zs.length acc → K acc
def lcTurnT (g : ZG) (zt : ZT) (ze : ZE) (vs : List Nat) (Γ : G) : Z → (Ch → Prop) → Prop → Prop := fun z kt kf => g (.set z) (gw Γ vs) fun Γ2 => gw Γ2 vs = Γ ∧ zt Γ2 fun c => zite c (ze Γ2 fun b => b.chf kt) kf
def zLcT (w : ZI) (g : ZG) (zt : ZT) (ze : ZE) (vs : List Nat) : ZE := fun Γ k => w Γ fun zs => LiT (lcTurnT g zt ze vs Γ) zs fun acc => k (.two (.l acc))
theorem Rel.newTwo (R : Rel fr F Γ T σ H) {p : Addr} (hp : H p = Option.none) : Rel fr F Γ (T ++ [(.ref p, B.two (.l []))]) σ (upd H p (.lst [])) := by
  obtain ⟨S, R⟩ := R
  have R : RelS fr F Γ (T ++ []) σ H S := by rw [List.append_nil]; exact R
  exact ⟨_, R.alloc hp (.inr rfl) (.inr rfl) (b := .two (.l [])) ⟨p, [], [], rfl, newO_at, upd_same, trivial, List.nodup_cons.mpr ⟨(fun h => nomatch h), List.nodup_nil⟩⟩⟩
theorem z_lcT {w : TI} {zw : ZI} {g : TG} {zg : ZG} {tt : TT} {zt : ZT} {te : TE} {ze : ZE} {vs : List Nat} (hw : SI fr w zw) (hg : SG fr g zg) (gwf : GW vs g) (ht : ST fr tt zt) (he : SE fr te ze) : SE fr (tLc w g tt te vs) (zLcT zw zg zt ze vs) := by
  intro F Γ T σ H Q k R kq q
  refine hw F Γ T σ H _ _ R (fun zs hz F' J H1 hF R1 hJ => ?_) q
  obtain ⟨hl, P, p0, pt, pe⟩ := hz
  intro D hD
  have R2 : Rel fr F' Γ (T ++ [(.ref D, B.two (.l []))]) σ (upd H1 D (.lst [])) := Rel.newTwo R1 hD
  refine ⟨fun i m H' => m = zs.length - i ∧ i ≤ zs.length ∧ ∃ acc : List Ch, acc.length ≤ i ∧ Rel fr F' Γ (T ++ [(.ref D, B.two (.l acc))]) σ H' ∧ P i acc, ⟨zs.length, rfl, Nat.zero_le _, [], Nat.zero_le _, R2, p0⟩, ?_⟩
  rintro i m H2 ⟨rfl, hi, acc, la, R3, p1⟩
  by_cases hlt : i < zs.length
  · refine .inr ⟨hJ.go i H2 hlt R3.le, fun H' => ∃ acc : List Ch, acc.length ≤ i + 1 ∧ Rel fr F' Γ (T ++ [(.ref D, B.two (.l acc))]) σ H' ∧ P (i + 1) acc, fun H' ⟨acc, l', R', p'⟩ => ⟨zs.length - (i + 1), by omega, rfl, hlt, acc, l', R', p'⟩, fun x H3 hy => ?_⟩
    have R4 := (hJ.yld i zs[i] Γ _ σ H2 H3 x (List.getElem?_eq_getElem hlt) R3 hy).wipe vs
    have st := hg F' (gw Γ vs) _ (L2.wipe σ vs) H3 x _ (fun σ2 H4 => L2.wipe σ2 vs = L2.wipe σ vs → tt σ2 H4 fun b H3 =>
      if b = true then te σ2 H3 fun y H4 => ∃ acc, H4 D = some (.lst acc) ∧ acc.length < sizeLine ∧ (fun H' => ∃ acc : List Ch, acc.length ≤ i + 1 ∧ Rel fr F' Γ (T ++ [(.ref D, B.two (.l acc))]) σ H' ∧ P (i + 1) acc) (upd H4 D (.lst (acc ++ [y]))) else (fun H' => ∃ acc : List Ch, acc.length ≤ i + 1 ∧ Rel fr F' Γ (T ++ [(.ref D, B.two (.l acc))]) σ H' ∧ P (i + 1) acc) H3) _ R4 (fun Γ2 q2 σ2 H4 R5 ew => ?_) (pt i _ acc (List.getElem?_eq_getElem hlt) p1)
    · refine gwf _ _ _ _ _ (fun σ' H' e q => ?_) st
      have e2 : L2.wipe σ' vs = L2.wipe σ vs := e.trans (wipe_wipe σ vs vs fun _ h => h)
      exact ⟨e2, q e2⟩
    · refine ht F' Γ2 _ σ2 H4 _ _ R5 (fun c hc H5 R6 => ?_) q2.2
      cases c with
      | true =>
        refine he F' Γ2 _ σ2 H5 _ _ R6 (fun b hb y H6 R7 => ?_) (hc.1 rfl)
        rw [List.append_assoc] at R7
        obtain ⟨ws, ch, kc, g1, g2, g3⟩ := Rel.appTwo R7 hb
        exact ⟨ws, g1, mem_lt (by omega), acc ++ [ch], by rw [List.length_append]; exact Nat.succ_le_succ la, g3.back q2.1 ew, kc⟩
      | false => exact ⟨acc, Nat.le_succ_of_le la, R6.back q2.1 ew, hc.2 rfl⟩
  · obtain rfl : i = zs.length := by omega
    exact .inl ⟨hJ.stop _ H2 (Nat.le_refl _) R3.le, kq _ (pe acc p1) _ _ (R3.weak hF)⟩
theorem In2.map {α : Type} {turn : Z → (Z → Prop) → Prop → Prop} {xs : List α} {em : α → Z} {acc : List Z} {K : List Z → Prop} (f : α → Z) (hl : acc.length + xs.length ≤ 1000000) (ht : ∀ x ∈ xs, ∀ kt kf, kt (f x) → turn (em x) kt kf) (he : K (acc ++ xs.map f)) : In2 turn (xs.map em) acc K := by
  refine ⟨by rw [List.length_map]; omega, fun j a => a = acc ++ (xs.take j).map f, (List.append_nil _).symm, fun j z a hz e => ?_, fun a e => ?_⟩
  · rw [List.getElem?_map] at hz
    obtain ⟨x, hx, rfl⟩ := Option.map_eq_some_iff.mp hz
    have jl := (List.getElem?_eq_some_iff.mp hx).1
    subst e
    refine ⟨by rw [List.length_append, List.length_map, List.length_take]; omega, ht x (List.mem_of_getElem? hx) _ _ ?_⟩
    show acc ++ (xs.take j).map f ++ [f x] = acc ++ (xs.take (j + 1)).map f
    rw [takeS hx, List.map_append, List.append_assoc]
    rfl
  · rw [List.length_map, List.take_length] at e
    rw [e]
    exact he
theorem Out2.flat {α : Type} {turn : Z → List Z → (List Z → Prop) → Prop} {xs : List α} {em : α → Z} {K : List Z → Prop} (f : α → List Z) (hl : xs.length ≤ 1000000) (ht : ∀ x ∈ xs, ∀ acc kn, acc.length + (f x).length ≤ (xs.flatMap f).length → kn (acc ++ f x) → turn (em x) acc kn) (he : K (xs.flatMap f)) : Out2 turn (xs.map em) K := by
  refine ⟨by rw [List.length_map]; exact hl, fun i a => a = (xs.take i).flatMap f, rfl, fun i z a hz e => ?_, fun a e => ?_⟩
  · rw [List.getElem?_map] at hz
    obtain ⟨x, hx, rfl⟩ := Option.map_eq_some_iff.mp hz
    subst e
    refine ht x (List.mem_of_getElem? hx) _ _ ?_ ?_
    · have h1 : xs.flatMap f = (xs.take (i + 1)).flatMap f ++ (xs.drop (i + 1)).flatMap f := by rw [← List.flatMap_append, List.take_append_drop]
      rw [h1, takeS hx, List.flatMap_append, List.length_append, List.length_append, List.flatMap_singleton]
      omega
    · show (xs.take i).flatMap f ++ f x = (xs.take (i + 1)).flatMap f
      rw [takeS hx, List.flatMap_append, List.flatMap_singleton]
  · rw [List.length_map, List.take_length] at e
    rw [e]
    exact he
end
end Rt

namespace Rt
open PySem PySem.Spec PyProof.Rows L2 RZ TL LamX
def topS (i : Nat) : Stmt := PySem.Challenge.pw_reedtapes_k41_whole_merged_tracks_part_a.main.body.getD i (.Pass ⟨0, 0, 0, 0⟩)
section
variable [TabsT] {P : Program} {w : World} {K : PySem.W.Frag} {mg : Str → Option Value} {base : Heap}
abbrev s_merged : Stmt := topS 5
theorem sc_merged : FnScope ["tracks", "rows", "number", "track", "event"] ["tracks"] (defScope s_merged) := ⟨rfl, rfl, rfl, by decide +kernel, rfl, by decide +kernel, by decide +kernel⟩
/-- a row: a track's number, an event -/
def rwE (p : Nat × Evt) : Z := .tup [.int (p.1 : Nat), evZ p.2]
def rowsT (tss : List (List Evt)) : List (Nat × Evt) := tss.zipIdx.flatMap fun p => p.1.map fun e => (p.2, e)
def ordR (p q : Nat × Evt) : Bool := decide (p.2.tick ≤ q.2.tick)
def mergeT (tss : List (List Evt)) : List (Nat × Evt) := (rowsT tss).mergeSort ordR
def keyR : Z → Int
  | .tup [_, .tup (.int t :: _)] => t
  | _ => 0
theorem keyR_rw (p : Nat × Evt) : keyR (rwE p) = p.2.tick := by
  obtain ⟨n, e⟩ := p
  cases e <;> rfl
theorem rws_imm : ∀ l : List (Nat × Evt), Z.imms (l.map rwE) = true
  | [] => rfl
  | (n, e) :: l => by
    show ((rwE (n, e)).imm && Z.imms (l.map rwE)) = true
    rw [rws_imm l, Bool.and_true]
    cases e <;> rfl
theorem rowsT_len {tss : List (List Evt)} (hm : ∀ es ∈ tss, es.length ≤ 100) : (rowsT tss).length ≤ tss.length * 100 := by
  have g : ∀ (tss : List (List Evt)) (k : Nat), (∀ es ∈ tss, es.length ≤ 100) → ((tss.zipIdx k).flatMap fun p => p.1.map fun e => (p.2, e)).length ≤ tss.length * 100 := by
    intro tss
    induction tss with
    | nil => intro k _; exact Nat.zero_le _
    | cons t tss ih =>
      intro k h
      rw [List.zipIdx_cons, List.flatMap_cons, List.length_append, List.length_cons, List.length_map]
      have := ih (k + 1) fun es he => h es (.tail _ he)
      have := h t (.head _)
      have e : (tss.length + 1) * 100 = tss.length * 100 + 100 := Nat.succ_mul _ _
      show t.length + _ ≤ _
      omega
  exact g tss 0 hm
def lamQ : Str := (envOfC "merged" (defScope s_merged) 0 0 Value.none).qual ++ "<lambda>"
def rzMerged : RZs := fun zs k _ => ∃ tss : List (List Evt), zs = [.lst (tss.map trackZ)] ∧ tss.length ≤ 100 ∧ (∀ es ∈ tss, es.length ≤ 100) ∧ k (.frs (.lst ((mergeT tss).map rwE)))
theorem ok_merged {f cc tb : Addr} {fd : FuncData} (F : Fun K "merged" "merged" s_merged f fd) (hcode : fd.code = .ref cc) (TB : TabB base mg cc tb) (mT : (tb, lamQ) ∈ TabsT.T) (uT : ∀ p ∈ TabsT.T, p.1 = tb → p.2 = lamQ) (m_enumerate : mg "enumerate" = none) (m_sorted : mg "sorted" = none) : FnOk P w K mg base CX0 4 f fd ["tracks"] (spZ K mg rzMerged) := by
  refine okZC F hcode sc_merged (fun zs k e ⟨_, h, _⟩ => by rw [h]; rfl) (fun A outer s H E0 E hr => ⟨_, _, (pss_cons (ps_setLc2 (i := 1) (own := [("number", 2), ("track", 3), ("event", 4)]) (vs1 := [4]) (g := gTup K 2 (gCons (gName 2) (gCons (gName 3) gNil))) (g1 := gName 4) (tt := tYes) (tt1 := tYes) rfl sc_merged.nd rfl rfl (sw_true rfl rfl rfl (by decide +kernel)) (pi_enum (by rfl) m_enumerate (pa_cons (pv 0) pa_nil)) (blkOk_by (N := ["tracks", "rows", "number", "track", "event"]) (sc := defScope s_merged) (by decide +kernel)) (by decide) (fun _ _ _ _ _ => pg_tup rfl (pgs_cons (pg_name (i := 2) sc_merged.nd rfl (Or.inl rfl)) (pgs_cons (pg_name (i := 3) sc_merged.nd rfl (Or.inl rfl)) pgs_nil))) (fun _ _ _ _ _ => pts_nil) (fun _ _ _ _ _ => pi_list (pv 3)) (fun _ _ _ _ _ => pg_name (i := 4) sc_merged.nd rfl (Or.inl rfl)) (fun _ _ _ _ _ => pts_nil) (fun _ _ _ _ _ => (pe_tup (pa_cons (pv 2) (pa_cons (pv 4) pa_nil)))))
      (pss_one (ps_ret (pe_sortL (k := 0) (N := ["row"]) (fr := []) (js := []) (a := "row") rfl rfl m_sorted (pv 1) hr (by decide) TB rfl mT uT rfl (by decide +kernel) (show NdefX.ndefB (defScope s_merged) _ _ = true from by decide +kernel) rfl (fun _ _ _ _ _ _ => rfl) (fun _ _ _ _ _ _ => (px_ixT (px_ixT (px_var (i := 0) rfl (.inl rfl)) (fun _ _ => rfl)) (fun _ _ => rfl))))))), (z_cons (z_set 1 (z_lc2 (zi_enum (za_cons (z_var 0) za_nil)) (zg_tup (zg_cons (zg_name 2) (zg_cons (zg_name 3) zg_nil))) (gw_tup (gw_cons gw_name (gw_cons gw_name gw_nil))) z_yes (zi_list (z_var 3)) (zg_name 4) gw_name z_yes (z_tup (za_cons (z_var 2) (za_cons (z_var 4) za_nil)))))
      (z_ret (z_sortL (z_var 1) (xs_ixT (i := 0) (xs_ixT (i := 1) (xs_var 0)))))), fun zs k h => ?_⟩) (fun _ _ _ h => h)
  obtain ⟨tss, rfl, hl, hm, q⟩ := h
  (conv => whnf); repeat (first | (refine And.intro (⟨by decide, by decide, by decide⟩ : CPow _ _) ?_; conv => whnf) | (refine And.intro (⟨by decide, by decide⟩ : CDiv _ _) ?_; conv => whnf) | (refine And.intro (Or.inr ⟨by decide, by decide⟩ : CMul _ _) ?_; conv => whnf) | (refine And.intro (by decide : Int.natAbs _ < (_ : Nat)) ?_; conv => whnf) | (refine And.intro (by decide : (_ : Int) ≤ _ ∧ _ < (2 : Int) ^ 62) ?_; conv => whnf) | (refine And.intro (by decide : (0 : Int) < _) ?_; conv => whnf) | (refine And.intro (rfl : List.length _ = _) ?_; conv => whnf) | (refine And.intro (vZs_imm _ : Z.imms _ = true) ?_; conv => whnf) | (refine And.intro (rfl : gw _ _ = _) ?_; conv => whnf) | (refine And.intro (of_decide_eq_true rfl : _ + _ ≤ (1000000 : Nat)) ?_; conv => whnf) | (refine And.intro (of_decide_eq_true rfl : _ < (1000000 : Nat)) ?_; conv => whnf) | (refine And.intro (rfl : Z.imm _ = true) ?_; conv => whnf) | (refine And.intro (rfl : Z.imms _ = true) ?_; conv => whnf) | (refine Exists.intro _ (And.intro (rfl : atI _ _ = some _) ?_); conv => whnf) | (refine zite_t (by decide) ?_; conv => whnf) | (refine zite_f (by decide) ?_; conv => whnf) | (refine zite_t rfl ?_; conv => whnf) | (refine zite_f rfl ?_; conv => whnf))
  have ee : enumZ (tss.map trackZ) = tss.zipIdx.map fun p => .tup [.int (p.2 : Nat), trackZ p.1] := by
    unfold enumZ
    rw [List.zipIdx_map, List.map_map]
    rfl
  rw [ee]
  have fl : (tss.zipIdx.flatMap fun p => p.1.map fun e => rwE (p.2, e)) = (rowsT tss).map rwE := by
    unfold rowsT
    rw [List.map_flatMap]
    congr 1
    funext p
    rw [List.map_map]
    rfl
  have ln := rowsT_len hm
  refine Out2.flat (xs := tss.zipIdx) (fun p => p.1.map fun e => rwE (p.2, e)) (by rw [List.length_zipIdx]; omega) (fun p hp acc kn hb h => ?_) ?_
  · obtain ⟨t, n⟩ := p
    rw [fl, List.length_map, List.length_map] at hb
    have hb : acc.length + t.length ≤ (rowsT tss).length := hb
    (conv => whnf); repeat (first | (refine And.intro (⟨by decide, by decide, by decide⟩ : CPow _ _) ?_; conv => whnf) | (refine And.intro (⟨by decide, by decide⟩ : CDiv _ _) ?_; conv => whnf) | (refine And.intro (Or.inr ⟨by decide, by decide⟩ : CMul _ _) ?_; conv => whnf) | (refine And.intro (by decide : Int.natAbs _ < (_ : Nat)) ?_; conv => whnf) | (refine And.intro (by decide : (_ : Int) ≤ _ ∧ _ < (2 : Int) ^ 62) ?_; conv => whnf) | (refine And.intro (by decide : (0 : Int) < _) ?_; conv => whnf) | (refine And.intro (rfl : List.length _ = _) ?_; conv => whnf) | (refine And.intro (vZs_imm _ : Z.imms _ = true) ?_; conv => whnf) | (refine And.intro (rfl : gw _ _ = _) ?_; conv => whnf) | (refine And.intro (of_decide_eq_true rfl : _ + _ ≤ (1000000 : Nat)) ?_; conv => whnf) | (refine And.intro (of_decide_eq_true rfl : _ < (1000000 : Nat)) ?_; conv => whnf) | (refine And.intro (rfl : Z.imm _ = true) ?_; conv => whnf) | (refine And.intro (rfl : Z.imms _ = true) ?_; conv => whnf) | (refine Exists.intro _ (And.intro (rfl : atI _ _ = some _) ?_); conv => whnf) | (refine zite_t (by decide) ?_; conv => whnf) | (refine zite_f (by decide) ?_; conv => whnf) | (refine zite_t rfl ?_; conv => whnf) | (refine zite_f rfl ?_; conv => whnf))
    refine In2.map (xs := t) (em := evZ) (fun e => rwE (n, e)) (by have := Nat.mul_le_mul_right 100 hl; omega) (fun e he kt kf h => ?_) h
    (conv => whnf); repeat (first | (refine And.intro (⟨by decide, by decide, by decide⟩ : CPow _ _) ?_; conv => whnf) | (refine And.intro (⟨by decide, by decide⟩ : CDiv _ _) ?_; conv => whnf) | (refine And.intro (Or.inr ⟨by decide, by decide⟩ : CMul _ _) ?_; conv => whnf) | (refine And.intro (by decide : Int.natAbs _ < (_ : Nat)) ?_; conv => whnf) | (refine And.intro (by decide : (_ : Int) ≤ _ ∧ _ < (2 : Int) ^ 62) ?_; conv => whnf) | (refine And.intro (by decide : (0 : Int) < _) ?_; conv => whnf) | (refine And.intro (rfl : List.length _ = _) ?_; conv => whnf) | (refine And.intro (vZs_imm _ : Z.imms _ = true) ?_; conv => whnf) | (refine And.intro (rfl : gw _ _ = _) ?_; conv => whnf) | (refine And.intro (of_decide_eq_true rfl : _ + _ ≤ (1000000 : Nat)) ?_; conv => whnf) | (refine And.intro (of_decide_eq_true rfl : _ < (1000000 : Nat)) ?_; conv => whnf) | (refine And.intro (rfl : Z.imm _ = true) ?_; conv => whnf) | (refine And.intro (rfl : Z.imms _ = true) ?_; conv => whnf) | (refine Exists.intro _ (And.intro (rfl : atI _ _ = some _) ?_); conv => whnf) | (refine zite_t (by decide) ?_; conv => whnf) | (refine zite_f (by decide) ?_; conv => whnf) | (refine zite_t rfl ?_; conv => whnf) | (refine zite_f rfl ?_; conv => whnf))
    exact h
  rw [fl]
  (conv => whnf); repeat (first | (refine And.intro (⟨by decide, by decide, by decide⟩ : CPow _ _) ?_; conv => whnf) | (refine And.intro (⟨by decide, by decide⟩ : CDiv _ _) ?_; conv => whnf) | (refine And.intro (Or.inr ⟨by decide, by decide⟩ : CMul _ _) ?_; conv => whnf) | (refine And.intro (by decide : Int.natAbs _ < (_ : Nat)) ?_; conv => whnf) | (refine And.intro (by decide : (_ : Int) ≤ _ ∧ _ < (2 : Int) ^ 62) ?_; conv => whnf) | (refine And.intro (by decide : (0 : Int) < _) ?_; conv => whnf) | (refine And.intro (rfl : List.length _ = _) ?_; conv => whnf) | (refine And.intro (vZs_imm _ : Z.imms _ = true) ?_; conv => whnf) | (refine And.intro (rfl : gw _ _ = _) ?_; conv => whnf) | (refine And.intro (of_decide_eq_true rfl : _ + _ ≤ (1000000 : Nat)) ?_; conv => whnf) | (refine And.intro (of_decide_eq_true rfl : _ < (1000000 : Nat)) ?_; conv => whnf) | (refine And.intro (rfl : Z.imm _ = true) ?_; conv => whnf) | (refine And.intro (rfl : Z.imms _ = true) ?_; conv => whnf) | (refine Exists.intro _ (And.intro (rfl : atI _ _ = some _) ?_); conv => whnf) | (refine zite_t (by decide) ?_; conv => whnf) | (refine zite_f (by decide) ?_; conv => whnf) | (refine zite_t rfl ?_; conv => whnf) | (refine zite_f rfl ?_; conv => whnf))
  refine ⟨(rowsT tss).map rwE, keyR, rfl, rws_imm _, fun y hy => ?_, ?_⟩
  · obtain ⟨p, _, rfl⟩ := List.mem_map.mp hy
    obtain ⟨n, e⟩ := p
    cases e with
    | _ =>
      conv => whnf
      exact ⟨_, rfl, _, rfl, _, rfl, rfl⟩
  have sm : ((rowsT tss).map rwE).mergeSort (fun x y => decide (keyR x ≤ keyR y)) = (mergeT tss).map rwE := by
    unfold mergeT
    refine (List.map_mergeSort fun a _ b _ => ?_).symm
    rw [keyR_rw, keyR_rw]
    rfl
  rw [sm]
  exact ⟨_, .ownF (z := .lst _) (rws_imm _), q⟩
abbrev s_need_number0 : Stmt := topS 4
theorem sc_need_number0 : FnScope ["number", "many"] ["number", "many"] (defScope s_need_number0) := ⟨rfl, rfl, rfl, by decide +kernel, rfl, by decide +kernel, by decide +kernel⟩
def rzNeedNum0 : RZs := fun zs k _ => ∃ n m : Int, zs = [.int n, .int m] ∧ 0 ≤ n ∧ n < m ∧ k (.set .non)
theorem ok_need_number0 {f : Addr} {fd : FuncData} (F : Fun K "need_number" "need_number" s_need_number0 f fd) : FnOk P w K mg base CX0 1 f fd ["number", "many"] (spZ K mg rzNeedNum0) := by
  refine okZ F sc_need_number0 (fun zs k e ⟨_, _, h, _⟩ => by rw [h]; rfl) (fun cdv A outer s H E0 E hr => ⟨_, _, (pss_one (ps_if (PW.pt (pw_or (pt_cmpR op_lt (pv 0) pe_int (nomark _)) (pw_or1 (pt_cmpR op_ge (pv 0) (pv 1) (nomark _))))) (pss_one ps_never) pss_nil)), (z_if (z_tOr (z_tTest (z_op s_lt (z_var 0) z_int)) (z_tTest (z_op s_ge (z_var 0) (z_var 1)))) z_never z_nil), fun zs k h => ?_⟩) (fun _ _ _ h => h)
  obtain ⟨n, m, rfl, h0, h1, q⟩ := h
  (conv => whnf); repeat (first | (refine And.intro (⟨by decide, by decide, by decide⟩ : CPow _ _) ?_; conv => whnf) | (refine And.intro (⟨by decide, by decide⟩ : CDiv _ _) ?_; conv => whnf) | (refine And.intro (Or.inr ⟨by decide, by decide⟩ : CMul _ _) ?_; conv => whnf) | (refine And.intro (by decide : Int.natAbs _ < (_ : Nat)) ?_; conv => whnf) | (refine And.intro (by decide : (_ : Int) ≤ _ ∧ _ < (2 : Int) ^ 62) ?_; conv => whnf) | (refine And.intro (by decide : (0 : Int) < _) ?_; conv => whnf) | (refine And.intro (rfl : List.length _ = _) ?_; conv => whnf) | (refine And.intro (vZs_imm _ : Z.imms _ = true) ?_; conv => whnf) | (refine And.intro (rfl : gw _ _ = _) ?_; conv => whnf) | (refine And.intro (of_decide_eq_true rfl : _ + _ ≤ (1000000 : Nat)) ?_; conv => whnf) | (refine And.intro (of_decide_eq_true rfl : _ < (1000000 : Nat)) ?_; conv => whnf) | (refine And.intro (rfl : Z.imm _ = true) ?_; conv => whnf) | (refine And.intro (rfl : Z.imms _ = true) ?_; conv => whnf) | (refine Exists.intro _ (And.intro (rfl : atI _ _ = some _) ?_); conv => whnf) | (refine zite_t (by decide) ?_; conv => whnf) | (refine zite_f (by decide) ?_; conv => whnf) | (refine zite_t rfl ?_; conv => whnf) | (refine zite_f rfl ?_; conv => whnf))
  refine zite_f (decide_eq_false (by omega)) ?_
  (conv => whnf); repeat (first | (refine And.intro (⟨by decide, by decide, by decide⟩ : CPow _ _) ?_; conv => whnf) | (refine And.intro (⟨by decide, by decide⟩ : CDiv _ _) ?_; conv => whnf) | (refine And.intro (Or.inr ⟨by decide, by decide⟩ : CMul _ _) ?_; conv => whnf) | (refine And.intro (by decide : Int.natAbs _ < (_ : Nat)) ?_; conv => whnf) | (refine And.intro (by decide : (_ : Int) ≤ _ ∧ _ < (2 : Int) ^ 62) ?_; conv => whnf) | (refine And.intro (by decide : (0 : Int) < _) ?_; conv => whnf) | (refine And.intro (rfl : List.length _ = _) ?_; conv => whnf) | (refine And.intro (vZs_imm _ : Z.imms _ = true) ?_; conv => whnf) | (refine And.intro (rfl : gw _ _ = _) ?_; conv => whnf) | (refine And.intro (of_decide_eq_true rfl : _ + _ ≤ (1000000 : Nat)) ?_; conv => whnf) | (refine And.intro (of_decide_eq_true rfl : _ < (1000000 : Nat)) ?_; conv => whnf) | (refine And.intro (rfl : Z.imm _ = true) ?_; conv => whnf) | (refine And.intro (rfl : Z.imms _ = true) ?_; conv => whnf) | (refine Exists.intro _ (And.intro (rfl : atI _ _ = some _) ?_); conv => whnf) | (refine zite_t (by decide) ?_; conv => whnf) | (refine zite_f (by decide) ?_; conv => whnf) | (refine zite_t rfl ?_; conv => whnf) | (refine zite_f rfl ?_; conv => whnf))
  refine zite_f (decide_eq_false (by omega)) ?_
  (conv => whnf); repeat (first | (refine And.intro (⟨by decide, by decide, by decide⟩ : CPow _ _) ?_; conv => whnf) | (refine And.intro (⟨by decide, by decide⟩ : CDiv _ _) ?_; conv => whnf) | (refine And.intro (Or.inr ⟨by decide, by decide⟩ : CMul _ _) ?_; conv => whnf) | (refine And.intro (by decide : Int.natAbs _ < (_ : Nat)) ?_; conv => whnf) | (refine And.intro (by decide : (_ : Int) ≤ _ ∧ _ < (2 : Int) ^ 62) ?_; conv => whnf) | (refine And.intro (by decide : (0 : Int) < _) ?_; conv => whnf) | (refine And.intro (rfl : List.length _ = _) ?_; conv => whnf) | (refine And.intro (vZs_imm _ : Z.imms _ = true) ?_; conv => whnf) | (refine And.intro (rfl : gw _ _ = _) ?_; conv => whnf) | (refine And.intro (of_decide_eq_true rfl : _ + _ ≤ (1000000 : Nat)) ?_; conv => whnf) | (refine And.intro (of_decide_eq_true rfl : _ < (1000000 : Nat)) ?_; conv => whnf) | (refine And.intro (rfl : Z.imm _ = true) ?_; conv => whnf) | (refine And.intro (rfl : Z.imms _ = true) ?_; conv => whnf) | (refine Exists.intro _ (And.intro (rfl : atI _ _ = some _) ?_); conv => whnf) | (refine zite_t (by decide) ?_; conv => whnf) | (refine zite_f (by decide) ?_; conv => whnf) | (refine zite_t rfl ?_; conv => whnf) | (refine zite_f rfl ?_; conv => whnf))
  exact q
abbrev s_parted0 : Stmt := topS 6
theorem sc_parted0 : FnScope ["rows", "many", "told", "number", "event", "_"] ["rows", "many"] (defScope s_parted0) := ⟨rfl, rfl, rfl, by decide +kernel, rfl, by decide +kernel, by decide +kernel⟩
def partT (rows : List (Nat × Evt)) (many : Nat) : List (List Evt) := (List.range many).map fun j => (rows.filter fun p => decide (p.1 = j)).map (·.2)
def chT (rows : List (Nat × Evt)) (many : Nat) : List Ch := (List.range many).map fun j => .l (((rows.filter fun p => decide (p.1 = j)).map (·.2)).map evZ)
theorem chT_nil (many : Nat) : chT [] many = List.replicate many (.l []) := by
  unfold chT
  have : ((List.range many).map fun _ => Ch.l []) = List.replicate many (Ch.l []) := by rw [List.map_const', List.length_range]
  exact this
theorem chT_z (rows : List (Nat × Evt)) (many : Nat) : (Root.l (chT rows many)).z = .lst ((partT rows many).map trackZ) := by
  show Z.lst ((chT rows many).map Ch.z) = _
  unfold chT partT
  rw [List.map_map, List.map_map]
  rfl
theorem chT_at {rows : List (Nat × Evt)} {many n : Nat} (h : n < many) : (chT rows many)[n]? = some (.l (((rows.filter fun p => decide (p.1 = n)).map (·.2)).map evZ)) := by
  unfold chT
  rw [List.getElem?_map, List.getElem?_range h]
  rfl
theorem chT_set {rows : List (Nat × Evt)} {many n : Nat} {e : Evt} (h : n < many) : (chT rows many).set n (.l ((((rows.filter fun p => decide (p.1 = n)).map (·.2)).map evZ) ++ [evZ e])) = chT (rows ++ [(n, e)]) many := by
  apply List.ext_getElem?
  intro j
  rw [List.getElem?_set]
  by_cases hj : n = j
  · subst hj
    rw [if_pos rfl, if_pos (by unfold chT; rw [List.length_map, List.length_range]; exact h), chT_at h, List.filter_append, List.filter_cons_of_pos (by simp)]
    simp
  · rw [if_neg hj]
    by_cases hm : j < many
    · rw [chT_at hm, chT_at hm, List.filter_append, List.filter_cons_of_neg (by simpa using hj)]
      simp
    · unfold chT
      rw [List.getElem?_eq_none (by rw [List.length_map, List.length_range]; omega), List.getElem?_eq_none (by rw [List.length_map, List.length_range]; omega)]
def rzParted0 : RZs := fun zs k _ => ∃ (rows : List (Nat × Evt)) (many : Nat), zs = [.lst (rows.map rwE), .int (many : Int)] ∧ rows.length ≤ 100000 ∧ many ≤ 1000 ∧ (∀ p ∈ rows, p.1 < many) ∧ k (.set (.lst ((partT rows many).map trackZ)))
theorem ok_parted0 {f : Addr} {fd : FuncData} (F : Fun K "parted" "parted" s_parted0 f fd) (D_need_number : Def P w K mg base "need_number" 1 (spZ K mg rzNeedNum0)) (m_range : mg "range" = none) : FnOk P w K mg base CX0 2 f fd ["rows", "many"] (spZ K mg rzParted0) := by
  refine okZ F sc_parted0 (fun zs k e ⟨_, _, h, _⟩ => by rw [h]; rfl) (fun cdv A outer s H E0 E hr => ⟨_, _, (pss_cons (ps_setLc (i := 2) (own := [("_", 5)]) (g := gName 5) (tt := tYes) rfl sc_parted0.nd rfl rfl (sw_true rfl rfl rfl (by decide +kernel)) (pi_range1 rfl m_range (pa_cons (pv 1) pa_nil)) (blkOk_by (N := ["rows", "many", "told", "number", "event", "_"]) (sc := defScope s_parted0) (by decide +kernel)) (fun _ _ _ _ _ => pg_name (i := 5) sc_parted0.nd rfl (Or.inl rfl)) (fun _ _ _ _ _ => pts_nil) (fun _ _ _ _ _ => (pe_lst pa_nil)))
      (pss_cons (ps_for PassesOwn.never rfl (pi_list (pv 0)) (pg_tup rfl (pgs_cons (pg_name (i := 3) sc_parted0.nd rfl (Or.inl rfl)) (pgs_cons (pg_name (i := 4) sc_parted0.nd rfl (Or.inl rfl)) pgs_nil))) (pss_cons (ps_expr (pe_d D_need_number (hr.mono (by decide)) rfl (pa_cons (pv 3) (pa_cons (pv 1) pa_nil))))
      (pss_one (ps_expr (pe_bm PySem.F.plainAttrs_list PySem.F.slot_list_append PySem.F.type_list_append mt_append (pe_ix ix_list (pv 2) (pv 3) (fun _ _ => rfl)) (pa_cons (pv 4) pa_nil))))))
      (pss_one (ps_ret (pv 2))))), (z_cons (z_keep 2 (z_lcT (zi_rng1 (za_cons (z_var 1) za_nil)) (zg_name 5) gw_name z_yes (z_lst za_nil)))
      (z_cons (z_for (zi_list (z_var 0)) (zg_tup (zg_cons (zg_name 3) (zg_cons (zg_name 4) zg_nil))) (z_cons (z_expr (z_call (za_cons (z_var 3) (za_cons (z_var 1) za_nil)) .nil))
      (z_tapV (i := 2) (m := 4) (z_var 3))))
      (z_frzP 2 (z_ret (z_var 2))))), fun zs k h => ?_⟩) (fun _ _ _ h => h)
  obtain ⟨rows, many, rfl, hl, hm, hn, q⟩ := h
  (conv => whnf); repeat (first | (refine And.intro (⟨by decide, by decide, by decide⟩ : CPow _ _) ?_; conv => whnf) | (refine And.intro (⟨by decide, by decide⟩ : CDiv _ _) ?_; conv => whnf) | (refine And.intro (Or.inr ⟨by decide, by decide⟩ : CMul _ _) ?_; conv => whnf) | (refine And.intro (by decide : Int.natAbs _ < (_ : Nat)) ?_; conv => whnf) | (refine And.intro (by decide : (_ : Int) ≤ _ ∧ _ < (2 : Int) ^ 62) ?_; conv => whnf) | (refine And.intro (by decide : (0 : Int) < _) ?_; conv => whnf) | (refine And.intro (rfl : List.length _ = _) ?_; conv => whnf) | (refine And.intro (vZs_imm _ : Z.imms _ = true) ?_; conv => whnf) | (refine And.intro (rfl : gw _ _ = _) ?_; conv => whnf) | (refine And.intro (of_decide_eq_true rfl : _ + _ ≤ (1000000 : Nat)) ?_; conv => whnf) | (refine And.intro (of_decide_eq_true rfl : _ < (1000000 : Nat)) ?_; conv => whnf) | (refine And.intro (rfl : Z.imm _ = true) ?_; conv => whnf) | (refine And.intro (rfl : Z.imms _ = true) ?_; conv => whnf) | (refine Exists.intro _ (And.intro (rfl : atI _ _ = some _) ?_); conv => whnf) | (refine zite_t (by decide) ?_; conv => whnf) | (refine zite_f (by decide) ?_; conv => whnf) | (refine zite_t rfl ?_; conv => whnf) | (refine zite_f rfl ?_; conv => whnf))
  refine ⟨⟨by omega, by omega⟩, ?_⟩
  rw [show ((many : Int)).toNat = many from rfl]
  refine ⟨by unfold rngZ; rw [List.length_map, List.length_range]; omega, fun i acc => acc = List.replicate i (.l []), rfl, fun i z acc hz e => ?_, fun acc e => ?_⟩
  · subst e
    (conv => whnf); repeat (first | (refine And.intro (⟨by decide, by decide, by decide⟩ : CPow _ _) ?_; conv => whnf) | (refine And.intro (⟨by decide, by decide⟩ : CDiv _ _) ?_; conv => whnf) | (refine And.intro (Or.inr ⟨by decide, by decide⟩ : CMul _ _) ?_; conv => whnf) | (refine And.intro (by decide : Int.natAbs _ < (_ : Nat)) ?_; conv => whnf) | (refine And.intro (by decide : (_ : Int) ≤ _ ∧ _ < (2 : Int) ^ 62) ?_; conv => whnf) | (refine And.intro (by decide : (0 : Int) < _) ?_; conv => whnf) | (refine And.intro (rfl : List.length _ = _) ?_; conv => whnf) | (refine And.intro (vZs_imm _ : Z.imms _ = true) ?_; conv => whnf) | (refine And.intro (rfl : gw _ _ = _) ?_; conv => whnf) | (refine And.intro (of_decide_eq_true rfl : _ + _ ≤ (1000000 : Nat)) ?_; conv => whnf) | (refine And.intro (of_decide_eq_true rfl : _ < (1000000 : Nat)) ?_; conv => whnf) | (refine And.intro (rfl : Z.imm _ = true) ?_; conv => whnf) | (refine And.intro (rfl : Z.imms _ = true) ?_; conv => whnf) | (refine Exists.intro _ (And.intro (rfl : atI _ _ = some _) ?_); conv => whnf) | (refine zite_t (by decide) ?_; conv => whnf) | (refine zite_f (by decide) ?_; conv => whnf) | (refine zite_t rfl ?_; conv => whnf) | (refine zite_f rfl ?_; conv => whnf))
    exact List.replicate_succ'.symm
  rw [show (rngZ 0 many).length = many from by unfold rngZ; rw [List.length_map, List.length_range]] at e
  subst e
  (conv => whnf); repeat (first | (refine And.intro (⟨by decide, by decide, by decide⟩ : CPow _ _) ?_; conv => whnf) | (refine And.intro (⟨by decide, by decide⟩ : CDiv _ _) ?_; conv => whnf) | (refine And.intro (Or.inr ⟨by decide, by decide⟩ : CMul _ _) ?_; conv => whnf) | (refine And.intro (by decide : Int.natAbs _ < (_ : Nat)) ?_; conv => whnf) | (refine And.intro (by decide : (_ : Int) ≤ _ ∧ _ < (2 : Int) ^ 62) ?_; conv => whnf) | (refine And.intro (by decide : (0 : Int) < _) ?_; conv => whnf) | (refine And.intro (rfl : List.length _ = _) ?_; conv => whnf) | (refine And.intro (vZs_imm _ : Z.imms _ = true) ?_; conv => whnf) | (refine And.intro (rfl : gw _ _ = _) ?_; conv => whnf) | (refine And.intro (of_decide_eq_true rfl : _ + _ ≤ (1000000 : Nat)) ?_; conv => whnf) | (refine And.intro (of_decide_eq_true rfl : _ < (1000000 : Nat)) ?_; conv => whnf) | (refine And.intro (rfl : Z.imm _ = true) ?_; conv => whnf) | (refine And.intro (rfl : Z.imms _ = true) ?_; conv => whnf) | (refine Exists.intro _ (And.intro (rfl : atI _ _ = some _) ?_); conv => whnf) | (refine zite_t (by decide) ?_; conv => whnf) | (refine zite_f (by decide) ?_; conv => whnf) | (refine zite_t rfl ?_; conv => whnf) | (refine zite_f rfl ?_; conv => whnf))
  refine ForP.inv (fun i Γ => ∃ b3 b4 : Option B, Γ = [some (.set (.lst (rows.map rwE))), some (.set (.int (many : Int))), some (.two (.l (chT (rows.take i) many))), b3, b4, none]) ⟨none, none, ?_⟩ (fun i z Γ' hz hp => ?_) fun Γ' hp => ?_
  · rw [List.take_zero, chT_nil]
    rfl
  · obtain ⟨b3, b4, rfl⟩ := hp
    rw [List.getElem?_map] at hz
    obtain ⟨p, hp, rfl⟩ := Option.map_eq_some_iff.mp hz
    have np := hn p (List.mem_of_getElem? hp)
    obtain ⟨n, e⟩ := p
    (conv => whnf); repeat (first | (refine And.intro (⟨by decide, by decide, by decide⟩ : CPow _ _) ?_; conv => whnf) | (refine And.intro (⟨by decide, by decide⟩ : CDiv _ _) ?_; conv => whnf) | (refine And.intro (Or.inr ⟨by decide, by decide⟩ : CMul _ _) ?_; conv => whnf) | (refine And.intro (by decide : Int.natAbs _ < (_ : Nat)) ?_; conv => whnf) | (refine And.intro (by decide : (_ : Int) ≤ _ ∧ _ < (2 : Int) ^ 62) ?_; conv => whnf) | (refine And.intro (by decide : (0 : Int) < _) ?_; conv => whnf) | (refine And.intro (rfl : List.length _ = _) ?_; conv => whnf) | (refine And.intro (vZs_imm _ : Z.imms _ = true) ?_; conv => whnf) | (refine And.intro (rfl : gw _ _ = _) ?_; conv => whnf) | (refine And.intro (of_decide_eq_true rfl : _ + _ ≤ (1000000 : Nat)) ?_; conv => whnf) | (refine And.intro (of_decide_eq_true rfl : _ < (1000000 : Nat)) ?_; conv => whnf) | (refine And.intro (rfl : Z.imm _ = true) ?_; conv => whnf) | (refine And.intro (rfl : Z.imms _ = true) ?_; conv => whnf) | (refine Exists.intro _ (And.intro (rfl : atI _ _ = some _) ?_); conv => whnf) | (refine zite_t (by decide) ?_; conv => whnf) | (refine zite_f (by decide) ?_; conv => whnf) | (refine zite_t rfl ?_; conv => whnf) | (refine zite_f rfl ?_; conv => whnf))
    refine ⟨(n : Int), (many : Int), rfl, by omega, by omega, ?_⟩
    (conv => whnf); repeat (first | (refine And.intro (⟨by decide, by decide, by decide⟩ : CPow _ _) ?_; conv => whnf) | (refine And.intro (⟨by decide, by decide⟩ : CDiv _ _) ?_; conv => whnf) | (refine And.intro (Or.inr ⟨by decide, by decide⟩ : CMul _ _) ?_; conv => whnf) | (refine And.intro (by decide : Int.natAbs _ < (_ : Nat)) ?_; conv => whnf) | (refine And.intro (by decide : (_ : Int) ≤ _ ∧ _ < (2 : Int) ^ 62) ?_; conv => whnf) | (refine And.intro (by decide : (0 : Int) < _) ?_; conv => whnf) | (refine And.intro (rfl : List.length _ = _) ?_; conv => whnf) | (refine And.intro (vZs_imm _ : Z.imms _ = true) ?_; conv => whnf) | (refine And.intro (rfl : gw _ _ = _) ?_; conv => whnf) | (refine And.intro (of_decide_eq_true rfl : _ + _ ≤ (1000000 : Nat)) ?_; conv => whnf) | (refine And.intro (of_decide_eq_true rfl : _ < (1000000 : Nat)) ?_; conv => whnf) | (refine And.intro (rfl : Z.imm _ = true) ?_; conv => whnf) | (refine And.intro (rfl : Z.imms _ = true) ?_; conv => whnf) | (refine Exists.intro _ (And.intro (rfl : atI _ _ = some _) ?_); conv => whnf) | (refine zite_t (by decide) ?_; conv => whnf) | (refine zite_f (by decide) ?_; conv => whnf) | (refine zite_t rfl ?_; conv => whnf) | (refine zite_f rfl ?_; conv => whnf))
    have cl : (chT (rows.take i) many).length = many := by unfold chT; rw [List.length_map, List.length_range]
    refine ⟨n, by rw [cl]; have np' : n < many := np; show ixN many ((n : Nat) : Int) = some n; unfold ixN; rw [if_pos (by omega), if_pos (by omega)]; rfl, _, chT_at np, ?_, ?_⟩
    · rw [List.length_map, List.length_map]
      have h1 := List.length_filter_le (fun p : Nat × Evt => decide (p.1 = n)) (rows.take i)
      rw [List.length_take] at h1
      omega
    · rw [chT_set (show n < many from np), ← takeS hp]
      exact ⟨_, _, rfl⟩
  · obtain ⟨b3, b4, rfl⟩ := hp
    rw [List.length_map, List.take_length]
    (conv => whnf); repeat (first | (refine And.intro (⟨by decide, by decide, by decide⟩ : CPow _ _) ?_; conv => whnf) | (refine And.intro (⟨by decide, by decide⟩ : CDiv _ _) ?_; conv => whnf) | (refine And.intro (Or.inr ⟨by decide, by decide⟩ : CMul _ _) ?_; conv => whnf) | (refine And.intro (by decide : Int.natAbs _ < (_ : Nat)) ?_; conv => whnf) | (refine And.intro (by decide : (_ : Int) ≤ _ ∧ _ < (2 : Int) ^ 62) ?_; conv => whnf) | (refine And.intro (by decide : (0 : Int) < _) ?_; conv => whnf) | (refine And.intro (rfl : List.length _ = _) ?_; conv => whnf) | (refine And.intro (vZs_imm _ : Z.imms _ = true) ?_; conv => whnf) | (refine And.intro (rfl : gw _ _ = _) ?_; conv => whnf) | (refine And.intro (of_decide_eq_true rfl : _ + _ ≤ (1000000 : Nat)) ?_; conv => whnf) | (refine And.intro (of_decide_eq_true rfl : _ < (1000000 : Nat)) ?_; conv => whnf) | (refine And.intro (rfl : Z.imm _ = true) ?_; conv => whnf) | (refine And.intro (rfl : Z.imms _ = true) ?_; conv => whnf) | (refine Exists.intro _ (And.intro (rfl : atI _ _ = some _) ?_); conv => whnf) | (refine zite_t (by decide) ?_; conv => whnf) | (refine zite_f (by decide) ?_; conv => whnf) | (refine zite_t rfl ?_; conv => whnf) | (refine zite_f rfl ?_; conv => whnf))
    rw [chT_z]
    exact ⟨_, .set _, q⟩
end
end Rt

namespace Rt
open PySem PySem.Spec PyProof.Rows L2
/-! ### a comprehension whose items' making may let an error out -/
/-- what a call in the block may let out -/
def BX (Y : Cx) (E : XK) : Value → Shared → Prop := fun u z => ∃ (H : Hp) (s : Shared), Un Y.fs Y.ex Y.H_0 H Y.s_0.heap s.heap ∧ s.os = Y.s_0.os ∧ (∃ m, s.heap.Ns Y.env.locals m) ∧ H Y.env.locals = none ∧ L2.CX Y.prog Y.w Y.stack H s E u z
section
variable {Y : Cx} {pn : List (Addr × Obj)} {E : XK} {x : Str} {p pos : Pos} {e : Expr} {es : List Expr} {t : TA} {k : Nat} {sp : Sp}
theorem pe_dxb (D : DefX Y.prog Y.w Y.K Y.mg Y.base x k sp) (hr : Room k Y.A) (hg : Gl (Y.tr pn (BX Y E)) x) (ha : PA (Y.tr pn (BX Y E)) (e :: es) t) (hdb : (x == ("__debug__" : Str)) = false := by decide)
    (he : starEach (e :: es) Y.env = (false, eval e Y.env) :: starEach es Y.env := by rfl) (hpl : (backTo pos (starEach es Y.env)).any (·.1) = false := by rfl) :
    PE (Y.tr pn (BX Y E)) (.Call (.Name x p) (e :: es) [] pos) (tCallS sp (fun _ => E) t) := by
  obtain ⟨f, fd, ps, h1, h2, h3, h4⟩ := D.ex
  exact pe_callS (X := Y.tr pn (BX Y E)) h2 hr hg h1 h3 h4 (fun σ pins H s e s' I c => ⟨H, s, I.base, I.os, (let ⟨m, a, _⟩ := I.loc; ⟨m, a⟩), I.free, c⟩) ha hdb he hpl
end
theorem frames_but {h h' B B2 : Heap} {C : Addr} (sb : Heap.SameBut C h h') : ∀ {l : List Env}, h.FunFrames B l → C ∉ frs l → (∀ L ∈ frs l, B2.get? L = none) → h'.FunFrames B2 l
  | [], _, _, _ => trivial
  | env :: l, x, nC, hn => by
    obtain ⟨a1, ⟨L, o, a2, _, a4, a5⟩, a6⟩ := x
    have hL : L ∈ frs (env :: l) := List.mem_filterMap.mpr ⟨env, .head _, a2⟩
    have sub : ∀ b ∈ frs l, b ∈ frs (env :: l) := fun b hb => by
      obtain ⟨e, he, q⟩ := List.mem_filterMap.mp hb
      exact List.mem_filterMap.mpr ⟨e, .tail _ he, q⟩
    exact ⟨a1, ⟨L, o, a2, hn L hL, (sb.2 L fun z => nC (z ▸ hL)).trans a4, a5⟩, frames_but sb a6 (fun z => nC (sub _ z)) fun b hb => hn b (sub b hb)⟩
/-- off the block, on in the def's own frame -/
theorem bx_out {X : Cx} {pins : List (Addr × Obj)} {σ : L2.St} {H3 : Hp} {s3 : Shared} {fp : List Addr} {scope : Scope} {ce : Env} {E : XK} (I3 : Inv X pins σ H3 s3) (hC : ce.locals = s3.heap.objs.size) (hcf : ce.frame = X.env.frame)
    (hs : X.stack = X.env :: X.outer) (hf : X.env.frame = some X.env.locals) (tk : Takes X (fun cls d _ H => E cls d H)) (f3 : ∀ b ∈ fp, FpOk X pins H3 b ∧ b < s3.heap.objs.size) {u : Value} {z : Shared}
    (h : BX (X.blk s3 H3 scope ce fp) E u z) : notedBy (model X.prog X.w) X.A ce (CompFails (model X.prog X.w) X.A X.xe ce) u z := by
  obtain ⟨H, s, un, os1, ⟨m, hm⟩, nC, a, B, H', cls, d, rfl, fl, hok, ub, na, os2, ag, hE⟩ := h
  have un : Un (frs X.stack) fp H3 H s3.heap s.heap := un
  have os1 : s.os = s3.os := os1
  have fl : HandSPX.FlyingZ B X.stack a (Zc cls d) z.heap := fl
  have ub : UB (frs X.stack) H H' s.heap B z.heap := ub
  have hok : HOk X.prog X.w H' B := hok
  have hm : s.heap.Ns ce.locals m := hm
  have nC : H ce.locals = none := nC
  have frm : X.A.frames = some (X.env :: X.outer) := by rw [I3.ok.frames, hs]
  have nst : ce.locals ∉ frs X.stack := fun q => by
    obtain ⟨_, o, e, _⟩ := I3.stack.mem q
    have := Heap.lt_size e
    rw [hC] at this
    exact Nat.lt_irrefl _ this
  show wpAny _ X.A (noteFrame (.ref a) ce) _ _ z
  rw [show noteFrame (.ref a) ce = noteFrame (.ref a) X.env by unfold noteFrame PySem.frameOf; rw [hcf]]
  have fl' : HandSPX.FlyingZ B (X.env :: X.outer) a (Zc cls d) z.heap := by rw [← hs]; exact fl
  refine HandSPX.looks_onZ Zc.steady frm hf fl' fun h1 hh1 up1 => ?_
  rw [← hs] at hh1
  obtain ⟨st1, nB, ff1, oe, vs, T, oT, ts, he, hz, hd, hv1, hnT, hTe, hT, hdT, h3⟩ := hh1
  obtain ⟨oC, es, ep, hoC, hdC, hkC, hfC⟩ := hm
  have bC : B.get? ce.locals = some oC := ub.keep _ _ hoC nC nst
  have c1 : h1.get? ce.locals = some oC := st1 _ _ bC
  have aC : a ≠ ce.locals := fun q => by
    rw [q, c1] at he
    cases he
    rw [hdC] at hd
    cases hd
  have TC : T ≠ ce.locals := fun q => by
    rw [q, c1] at hT
    cases hT
    rw [hdC] at hdT
    cases hdT
  refine ⟨m, ⟨oC, es, ep, c1, hdC, hkC, hfC⟩, fun h2 m2 _ sb => ?_⟩
  -- the ground without the block's names
  have gB : ∀ b o, B.get? b = some o → b ≠ ce.locals → (PySem.W.hideAll B [ce.locals]).get? b = some o := fun b o e n => PySem.W.hideAll_get _ e fun q => n (List.mem_singleton.mp q)
  have oB : ∀ b o, (PySem.W.hideAll B [ce.locals]).get? b = some o → B.get? b = some o ∧ b ≠ ce.locals := fun b o e => ⟨PySem.W.of_hideAll _ e, fun q => by
    rw [PySem.W.hideAll_none _ (List.mem_singleton.mpr q)] at e
    cases e⟩
  have oN : ∀ b, B.get? b = none → (PySem.W.hideAll B [ce.locals]).get? b = none := fun b e => by
    cases q : (PySem.W.hideAll B [ce.locals]).get? b with
    | none => rfl
    | some o =>
      rw [(oB b o q).1] at e
      cases e
  generalize PySem.W.hideAll B [ce.locals] = B2 at gB oB oN
  have nfB : ∀ L ∈ frs X.stack, B.get? L = none := fun L hL => (ff1.mem hL).1
  have hh2 : HandSPX.HeldZ B2 X.stack a (Zc cls d) X.env.locals h2 :=
    ⟨fun b o q => (sb.2 b (oB b o q).2).trans (st1 b o (oB b o q).1), oN _ nB, frames_but sb ff1 nst (fun L hL => oN L (nfB L hL)),
      oe, vs, T, oT, ts, (sb.2 a aC).trans he, hz, hd, hv1, oN T hnT, hTe, (sb.2 T TC).trans hT, hdT, h3⟩
  unfold PySem.passOn
  refine wpAny_bind (wpAny_field (x := .ref T) ((sb.2 a aC).trans he) hd hv1 ?_)
  rw [if_neg (show ¬ ((Value.ref T == Value.none) = true) by simp)]
  -- the state without the error
  obtain ⟨G, g1, g2⟩ := restrict z.heap fun b => (B2.get? b).isSome || decide (b ∈ frs X.stack)
  have gG : ∀ b o, B2.get? b = some o → G.get? b = some o := fun b o e => by
    rw [g1 b (by rw [e]; rfl)]
    exact fl.1 b o (oB b o e).1
  have gF : ∀ b, b ∈ frs X.stack → G.get? b = z.heap.get? b := fun b hb => g1 b (by rw [decide_eq_true hb, Bool.or_true])
  have oG : ∀ b o, G.get? b = some o → z.heap.get? b = some o ∧ (B2.get? b = some o ∨ b ∈ frs X.stack) := fun b o e => by
    cases q : ((B2.get? b).isSome || decide (b ∈ frs X.stack)) with
    | false => rw [g2 b q] at e; cases e
    | true =>
      rw [g1 b q] at e
      rcases Bool.or_eq_true_iff.mp q with q | q
      · obtain ⟨o', q⟩ := Option.isSome_iff_exists.mp q
        have := fl.1 b o' (oB b o' q).1
        rw [e] at this
        cases this
        exact ⟨e, .inl q⟩
      · exact ⟨e, .inr (of_decide_eq_true q)⟩
  have ltC : ∀ b o, s3.heap.get? b = some o → b ≠ ce.locals := fun b o e q => by
    have := Heap.lt_size e
    rw [q, hC] at this
    exact Nat.lt_irrefl _ this
  have H'C : H' ce.locals = none := ub.free _ _ hoC nC
  have uG : Un (frs X.stack) fp H3 H' s3.heap G := by
    refine ⟨fun b o e n hb hx => gG b o (gB b o (ub.keep b o (un.keep b o e n hb hx) (un.free b o e n hx) hb) (ltC b o e)), fun b o e n hb hx => ?_, fun b o e n hx => ?_, fun b o e hx => ?_, fun b xs e => ub.tups b xs (un.tups b xs e), fun b o xs e => ub.frzs b o xs (un.frzs b o xs e), fun b ps e => ?_⟩
    · obtain ⟨s1, q1⟩ := un.slot b o e n hb hx
      obtain ⟨s2, q2⟩ := ub.slot b _ q1 hb
      exact ⟨s2, by rw [gF b hb]; exact q2⟩
    · obtain ⟨sl, q⟩ := un.any e n hx
      exact ub.free b _ q (un.free b o e n hx)
    · obtain ⟨o1, q1⟩ := un.there b o e hx
      by_cases hb : b ∈ frs X.stack
      · obtain ⟨s2, q2⟩ := ub.slot b _ q1 hb
        exact ⟨_, by rw [gF b hb]; exact q2⟩
      · obtain ⟨o2, q2⟩ := ub.there b _ q1 hb
        exact ⟨o2, gG b o2 (gB b o2 q2 (ltC b o e))⟩
    · obtain ⟨m1, q1⟩ := un.tbls b ps e
      obtain ⟨m2, q2⟩ := ub.tbls b _ q1
      exact ⟨m1 ++ m2, by rw [q2, Array.append_assoc]⟩
  have hG : HOk X.prog X.w H' G := fun b o q => (hok b o q).stay (fun c w hc r => gG c w (gB c w r fun e => by
    rcases hc with hc | hc
    · rw [← hc, e] at q
      rw [H'C] at q
      cases q
    · rw [e, H'C] at hc
      cases hc)) (fun _ r => r) fun _ _ r => r
  have J : Inv X pins σ H' { s3 with heap := G, gens := z.gens, drawn := z.drawn, toks := z.toks } := I3.call (ch := fp) uG hG ag fun b hb => ⟨(f3 b hb).1.2.2.2.1, (f3 b hb).1.2.1, (f3 b hb).1.2.2.2.2.1, (f3 b hb).1.2.2.2.2.2⟩
  refine wpAny_bind ?_
  rw [hcf, hf]
  refine HandSPX.setFlight_onZ hh2 fun h4 hh4 up4 => ?_
  refine wpAny_throw (tk _ _ ⟨a, B2, _, pins, σ, H', cls, d, rfl, J, fun b o e hb => ?_, fun b o e hnf => ?_, .inr (.inr hh4), na, ?_, ag, hE⟩)
  · exact (oG b o e).2.elim (fun q => q) fun q => absurd q hb
  · obtain ⟨e1, e2⟩ := oG b o e
    have nb : b ≠ ce.locals := e2.elim (fun q => (oB b o q).2) fun q r => nst (r ▸ q)
    obtain ⟨l1, q1⟩ := up1 b o e1 hnf
    obtain ⟨l2, q2⟩ := up4 b { o with slots := l1 } ((sb.2 b nb).trans q1) hnf
    exact ⟨l2, q2⟩
  · show z.os = s3.os
    rw [os2, os1]
section
variable {X : Cx}
theorem lcx_core {pins : List (Addr × Obj)} {s : Shared} {σ : L2.St} {H : Hp} {Q : VK} {elt tg iter : Expr} {ifs : List Expr} {scope : Scope} {own : List (Str × Nat)} {pos pos' : Pos} {wIt : TI} {g : TG} {tt : TT} {te : TE} {E : XK} {use : Option (Value → Sem Unit)} {Qf : Value → Shared → Prop}
    (hc : X.calm = true) (hN : X.N.Nodup) (I : Inv X pins σ H s) (hi : PI X tg iter wIt) (ok : BlkOk X.N X.env.scope scope own) (hst : X.stack = X.env :: X.outer) (hf : X.env.frame = some X.env.locals) (tk : Takes X (fun cls d _ H => E cls d H))
    (hg : ∀ s H C cl fp, PG (X.blk s H scope (compEnvC scope cl C X.env) fp) tg g) (ht : ∀ s H C cl fp, PTs (X.blk s H scope (compEnvC scope cl C X.env) fp) ifs tt)
    (he : ∀ s H C cl fp pn, PE ((X.blk s H scope (compEnvC scope cl C X.env) fp).tr pn (BX (X.blk s H scope (compEnvC scope cl C X.env) fp) E)) elt te) (hs : ∀ x, foldedSetIterable iter X.env x = pure x)
    (h : tLc wIt g tt te (own.map (·.2)) σ H Q)
    (hRR : ∀ D s' m H' (cenv : Env), Inv X pins σ H' s' → Q (.ref D) H' → s'.heap.Ns cenv.locals m → FpOk X pins H' cenv.locals → compEnds (model X.prog X.w) X.A X.xe use Qf (.ref D) cenv (.ok .next) s') :
    wpAny (model X.prog X.w) X.A
      (comprehension (.ListComp elt [⟨tg, iter, ifs, 0⟩] scope pos) scope X.env pos' (newList []) false (eval iter X.env) use) Qf X.xe s := by
  have free : ∀ y ∈ scope.names, y.2 = .free → ∃ c, X.env.cells.lookup y.1 = some c := fun y hy e => (ok.free y hy e).elim (fun k => I.ok.has _ (.inl k)) fun k => I.ok.has _ (.inr k)
  refine comprehension_at (use := use) rfl hs (closure_ok free) ok.kind (fun y hy e => by rw [ok.uniq y hy, e]) (thn (hi.run pins s σ H _ I h) fun xv s1 hx => thn hx fun itv sA h2 => ?_)
  obtain ⟨it, fp, tn, J, H2, rfl, I2, T, t2, o2, q⟩ := h2
  refine wpAny_newObj_type (newEnv_comp ?_) (Nat.zero_le _)
  generalize eD : sA.heap.objs.size = D
  have nD : H2 D = none := I2.hok.fresh (Nat.le_of_eq eD)
  obtain ⟨W, ⟨m0, w0⟩, turn⟩ := q D nD
  generalize e3 : ({ sA with heap := sA.heap.push { cls := .type "list", data := .seq ([] : List Value).toArray } } : Shared) = sB
  have q3 : sB.heap = sA.heap.push { cls := .type "list", data := .seq ([] : List Value).toArray } := by rw [← e3]
  have IB : Inv X pins σ (upd H2 D (.lst [])) sB := by
    subst e3
    exact I2.laid (t' := sA.toks) (fun b o e => Heap.get?_push_of_some _ e) (Nat.le_of_eq eD) ⟨Nat.zero_le _, [], 0, .nil, by rw [← eD]; exact Heap.get?_push_size _ rfl⟩
  have small : ∀ b ∈ fp, b < sA.heap.objs.size := fun b hb => let ⟨o, e, _⟩ := T.obj _ _ t2 b hb; Heap.lt_size e
  have oF : ∀ b ∈ fp, FpOk X pins (upd H2 D (.lst [])) b ∧ b < sB.heap.objs.size := fun b hb =>
    ⟨⟨by rw [upd_ne (fun z => Nat.lt_irrefl D (by have := small b hb; rw [eD, z] at this; exact this))]; exact (o2 b hb).1, (o2 b hb).2⟩, by rw [q3, Heap.size_push]; exact Nat.lt_succ_of_lt (small b hb)⟩
  have t3 : tn 0 sB.heap := T.keep _ _ _ t2 fun b _ o e => by rw [q3]; exact Heap.get?_push_of_some _ e
  show codeAny _ _ (.compStart (.ListComp elt [⟨tg, iter, ifs, 0⟩] scope pos) 0 (.ref it) (.ref D) (compEnvC scope (cellsFrom (sB.heap.objs.size + 1) scope.names (cloFrom X.env.cells scope.names [])) sB.heap.objs.size X.env)) (compEnds (model X.prog X.w) X.A X.xe use Qf (.ref D) (compEnvC scope (cellsFrom (sB.heap.objs.size + 1) scope.names (cloFrom X.env.cells scope.names [])) sB.heap.objs.size X.env)) { sB with heap := pushCells (sB.heap.push { cls := .type "dict", data := .dict #[] }) scope.names }
  have IA := block_start IB ok hN oF
  generalize cellsFrom (sB.heap.objs.size + 1) scope.names (cloFrom X.env.cells scope.names []) = cl at IA ⊢
  have pg := hg sB (upd H2 D (.lst [])) sB.heap.objs.size cl fp
  have pt := ht sB (upd H2 D (.lst [])) sB.heap.objs.size cl fp
  have pe := he sB (upd H2 D (.lst [])) sB.heap.objs.size cl fp
  have cF : (compEnvC scope cl sB.heap.objs.size X.env).frame = X.env.frame := rfl
  have cL : (compEnvC scope cl sB.heap.objs.size X.env).locals = sB.heap.objs.size := rfl
  have noF : ∀ b ∈ fp, (upd H2 D (.lst [])) b = none := fun b hb => (oF b hb).1.1
  generalize compEnvC scope cl sB.heap.objs.size X.env = ce at IA pg pt pe cF cL ⊢
  generalize upd H2 D (.lst []) = HB at IB IA pg pt pe w0 noF oF
  generalize e4 : ({ sB with heap := pushCells (sB.heap.push { cls := .type "dict", data := .dict #[] }) scope.names } : Shared) = s4 at IA ⊢
  have t4 : tn 0 s4.heap := T.keep _ _ _ t3 fun b _ o e => by rw [← e4]; exact pushCells_keeps _ _ _ _ (Heap.get?_push_of_some _ e)
  have okb := IA.ok
  have stat : ∀ {σ' : L2.St} {H' : Hp} {s' : Shared}, Inv (X.blk sB HB scope ce fp) [] σ' H' s' → (∀ b ∈ fp, H' b = none) → ∀ b ∈ fp, FpOk (X.blk sB HB scope ce fp) [] H' b := fun {σ' H' s'} I' hn b hb =>
    ⟨hn b hb, (okb.exf b hb).1, okb.exfs b hb, .inl hb, fun x c e => (okb.exf b hb).2 x c e, fun p hp => nomatch hp⟩
  have loop : codeAny (model X.prog X.w) X.A (.compLoop (.ListComp elt [⟨tg, iter, ifs, 0⟩] scope pos) 0 (.ref it) (.ref D) ce) (compEnds (model X.prog X.w) X.A X.xe use Qf (.ref D) ce) s4 := by
    refine compLoop_any (fun n s' => ∃ i H', Inv (X.blk sB HB scope ce fp) [] (wipe σ (own.map (·.2))) H' s' ∧ tn i s'.heap ∧ (∀ b ∈ fp, H' b = none) ∧ W i n H') (fun n s5 hI => ?_) m0 ⟨0, HB, IA, t4, noF, w0⟩
    obtain ⟨i, H5, I5, t5, n5, wN⟩ := hI
    rcases turn i n H5 wN with ⟨stop, qEnd⟩ | ⟨go, Nx, hNext, step⟩
    · refine thnF (T.done (X.blk sB HB scope ce fp) rfl rfl rfl hc i [] s5 _ H5 (fun _ _ => False) I5 (stat I5 n5) t5 stop) fun r s6 hr6 => ?_
      obtain ⟨rfl, I6⟩ := hr6
      have IG : Inv X pins σ H5 s6 := IB.call' (ch := fp) I6.os I6.base I6.hok I6.bare fun b hb => ⟨(oF b hb).1.2.2.2.1, (oF b hb).1.2.1, (oF b hb).1.2.2.2.2.1, (oF b hb).1.2.2.2.2.2⟩
      obtain ⟨m, hn, _⟩ := I6.loc
      have fr : H5 ce.locals = none := I6.free
      exact hRR D s6 m H5 ce IG qEnd hn (IB.fpOk (Nat.le_of_eq cL.symm) fr)
    · refine thnF (T.item (X.blk sB HB scope ce fp) rfl rfl rfl hc i [] s5 _ H5 (fun _ _ => False) I5 (stat I5 n5) t5 go) fun r s6 hr6 => ?_
      obtain ⟨u, rfl, h6⟩ := hr6
      refine thnF h6 fun _ sG h7 => ?_
      obtain ⟨x, H7, IG, r7, y7, t7, n7⟩ := h7
      have IGp := IG.pinned (stat IG n7) (T.obj _ _ t7)
      refine thnF (pg.run _ sG _ H7 x u _ IGp r7 (step x H7 y7)) fun _ sH h8 => ?_
      obtain ⟨σ8, H8, I8, hw8, q8⟩ := h8
      refine thnF (pt.run _ sH σ8 H8 _ I8 q8) fun b s9 h9 => ?_
      obtain ⟨H9, I9, q9⟩ := h9
      have fin : ∀ {s' : Shared} {H' : Hp}, Inv (X.blk sB HB scope ce fp) ([] ++ pinsAt fp sG.heap) σ8 H' s' → Nx H' → ∃ m, m < n ∧ ∃ i H', Inv (X.blk sB HB scope ce fp) [] (wipe σ (own.map (·.2))) H' s' ∧ tn i s'.heap ∧ (∀ b ∈ fp, H' b = none) ∧ W i m H' := fun {s' H'} I' nx => by
        obtain ⟨m', hm, w'⟩ := hNext H' nx
        have pin' : ∀ b ∈ fp, ∀ o, sG.heap.get? b = some o → s'.heap.get? b = some o ∧ H' b = none := fun b hb o e => ⟨(I'.pin (b, o) (List.mem_append_right _ (List.mem_append_right _ (mem_pinsAt hb e)))).1, (I'.pin (b, o) (List.mem_append_right _ (List.mem_append_right _ (mem_pinsAt hb e)))).2.1⟩
        refine ⟨m', hm, i + 1, H', I'.unpinned.weak (by rw [← hw8, wipe_length]) (fun j v e => ?_), T.keep _ _ _ t7 fun b hb o e => (pin' b hb o e).1, fun b hb => ?_, w'⟩
        · rw [← hw8] at e
          exact (wipe_some e).1
        · obtain ⟨o, e, _⟩ := T.obj _ _ t7 b hb
          exact (pin' b hb o e).2
      cases b with
      | false => exact fin I9 q9
      | true =>
        refine wpAny_mono ((pe _).run [] s9 σ8 H9 _ (I9.toTry _) q9) (fun z s10 hz => ?_) fun u z hz => bx_out IB cL cF hst hf tk oF hz
        obtain ⟨yv, H10, I10, r10, acc, eD10, hz10, nx⟩ := hz
        exact app_ok (X := X.blk sB HB scope ce fp) (I10.ofTry okb) eD10 hz10 r10 fun s11 I11 => fin I11 nx
  exact codeAny_compStart_list loop (T.self X.A 0 _ _ _ t4 loop)
theorem pe_lcx {elt tg iter : Expr} {ifs : List Expr} {scope : Scope} {own : List (Str × Nat)} {pos : Pos} {wIt : TI} {g : TG} {tt : TT} {te : TE} {E : XK} (hc : X.calm = true) (hN : X.N.Nodup) (hi : PI X tg iter wIt) (ok : BlkOk X.N X.env.scope scope own)
    (hst : X.stack = X.env :: X.outer) (hf : X.env.frame = some X.env.locals) (tk : Takes X (fun cls d _ H => E cls d H))
    (hg : ∀ s H C cl fp, PG (X.blk s H scope (compEnvC scope cl C X.env) fp) tg g) (ht : ∀ s H C cl fp, PTs (X.blk s H scope (compEnvC scope cl C X.env) fp) ifs tt)
    (he : ∀ s H C cl fp pn, PE ((X.blk s H scope (compEnvC scope cl C X.env) fp).tr pn (BX (X.blk s H scope (compEnvC scope cl C X.env) fp) E)) elt te) (hs : ∀ x, foldedSetIterable iter X.env x = pure x := by intro _; rfl) :
    PE X (.ListComp elt [⟨tg, iter, ifs, 0⟩] scope pos) (tLc wIt g tt te (own.map (·.2))) := by
  refine ⟨fun pins s σ H Q I h => ?_⟩
  rw [eval_ListComp]
  refine lcx_core hc hN I hi ok hst hf tk hg ht he hs h fun D s' m H' cenv I' q hn f => ⟨m, hn, fun h'' sb => ?_⟩
  obtain ⟨o0, o1, o2, oF, o4, o5⟩ := f
  exact ⟨.ref D, H', I'.turned (t' := s'.toks) (fun b o hb e => (sb.2 b hb).trans e) o0 o1 oF o4 o5, rfl, q⟩
end
end Rt

namespace Rt
open PySem PySem.Spec PyProof.Rows L2 RZ TL LamX
section
variable [TabsT] {P : Program} {w : World} {K : PySem.W.Frag} {mg : Str → Option Value} {base : Heap}
abbrev s_begin : Stmt := topS 8
theorem sc_begin : FnScope ["_law_script"] ["_law_script"] (defScope s_begin) := ⟨rfl, rfl, rfl, by decide +kernel, rfl, by decide +kernel, by decide +kernel⟩
theorem ok_begin {f : Addr} {fd : FuncData} (F : Fun K "_law_begin" "_law_begin" s_begin f fd) (m_list : mg "list" = none) : FnOk P w K mg base CX0 1 f fd ["_law_script"] (spBegin K) := by
  refine F.ok sc_begin (fun vs H Q E h => ?_) (fun cdv A outer s H vs Q E hr h => ?_)
  · obtain ⟨a, ns, H0, rfl, _⟩ := h
    rfl
  · obtain ⟨a, ns, H0, rfl, hS, e0, q⟩ := h
    refine ⟨_, (pss_one (ps_ret (pe_lst (pa_cons (pe_callTy call_list_of (by rfl) m_list bt_list (pa_cons (pe_slice sl_list (pv 0) po_none (po_some pe_int)) pa_nil)) (pa_cons pe_int (pa_cons pe_int (pa_cons pe_int (pa_cons pe_int pa_nil)))))))), ?_⟩
    obtain ⟨ms, hms⟩ : ∃ ms : List Int, cutV (ns.map V.int) none (some 63) = ms.map V.int := ⟨_, by unfold cutV; rw [← List.map_drop, ← List.map_take]⟩
    refine ⟨.ref a, rfl, 63, rfl, a, _, rfl, hS, fun c hc => ?_⟩
    refine ⟨c, _, rfl, .inl (SqL.of upd_same), fun l hl => ?_⟩
    rw [hms] at hl ⊢
    refine ⟨(by show 5 ≤ sizeLine; decide), fun d hd => ?_⟩
    have g0 := Go.refl (m := fun _ => False) e0
    have g1 := g0.lay (.lst (ms.map V.int)) hc
    have g2 := g1.put (.lst (ms.map V.int)) hl
    have g3 := g2.lay (.lst [.ref l, .int 0, .int 0, .int 1, .int 0]) hd
    have nH : H d = none := g2.fresh hd
    exact q d _ _ g3 ⟨⟨l, ms, 0, 0, 1, 0, upd_same, upd_same, by decide, by decide, by decide, by decide⟩, g2.fresh0 hd⟩ nH
abbrev s_pick : Stmt := topS 9
theorem sc_pick : FnScope ["_law_draw", "_law_many", "_law_cell", "_law_got"] ["_law_draw", "_law_many"] (defScope s_pick) := ⟨rfl, rfl, rfl, by decide +kernel, rfl, by decide +kernel, by decide +kernel⟩
theorem ok_pick {f : Addr} {fd : FuncData} (F : Fun K "_law_pick" "_law_pick" s_pick f fd) (m_len : mg "len" = none) : FnOk P w K mg base CX0 1 f fd ["_law_draw", "_law_many"] spPick := by
  refine F.ok sc_pick (fun vs H Q E h => ?_) (fun cdv A outer s H vs Q E hr h => ?_)
  · obtain ⟨d, m, H0, rfl, _⟩ := h
    rfl
  · obtain ⟨d, m, H0, rfl, m0, m1, e0, ⟨⟨a, ns, i, j, k, l, hd, ha, hi, hj, hk0, hk⟩, out⟩, q⟩ := h
    refine ⟨_, (C8.pss_cut (ps_if (PW.pt (pw_and (pt_cmpR op_lt (pe_ix ix_list (pv 0) pe_int (fun _ _ => rfl)) (pv 1) (nomark _)) (pw_and1 (pt_cmpR op_lt (pe_ix ix_list (pv 0) pe_int (fun _ _ => rfl)) (pe_callB call_len_seq (by rfl) m_len PySem.boot_len (pa_cons (pe_ix ix_list (pv 0) pe_int (fun _ _ => rfl)) pa_nil)) (nomark _))))) (pss_cons (ps_set (i := 2) sc_pick.nd rfl (Or.inl rfl) (pe_ix ix_list (pe_ix ix_list (pv 0) pe_int (fun _ _ => rfl)) (pe_ix ix_list (pv 0) pe_int (fun _ _ => rfl)) (fun _ _ => rfl)))
      (pss_cons (ps_asg (pe_op op_add (pe_ix ix_list (pv 0) pe_int (fun _ _ => rfl)) pe_int) (pg_sub (pv 0) pe_int set_list))
      (pss_cons (ps_asg pe_int (pg_sub (pv 0) pe_int set_list))
      (pss_one (ps_if (pt_cmpR op_ge (pv 2) (pe_op op_pow pe_int pe_int) (nomark _)) (pss_one (ps_asg (pv 2) (pg_sub (pv 0) pe_int set_list))) (pss_one (ps_asg (pe_op op_modN (pe_op op_add (pe_ix ix_list (pv 0) pe_int (fun _ _ => rfl)) (pv 2)) pe_int) (pg_sub (pv 0) pe_int set_list)))))))) pss_nil)
      (pss_cons (ps_if (pt_cmpR op_ge (pe_ix ix_list (pv 0) pe_int (fun _ _ => rfl)) (pv 1) (nomark _)) (pss_cons (ps_set (i := 3) sc_pick.nd rfl (Or.inl rfl) (pe_op op_modN (pe_ix ix_list (pv 0) pe_int (fun _ _ => rfl)) (pv 1)))
      (pss_cons (ps_asg (pe_op op_fdivN (pe_ix ix_list (pv 0) pe_int (fun _ _ => rfl)) (pv 1)) (pg_sub (pv 0) pe_int set_list))
      (pss_one (ps_ret (pv 3))))) pss_nil)
      (pss_cons (ps_asg (pe_op op_add (pe_ix ix_list (pv 0) pe_int (fun _ _ => rfl)) pe_int) (pg_sub (pv 0) pe_int set_list))
      (pss_cons (ps_asg (pe_op op_modN (pe_op op_add (pe_op op_add (pe_op op_pow (pe_ix ix_list (pv 0) pe_int (fun _ _ => rfl)) pe_int) (pe_op op_mul pe_int (pe_ix ix_list (pv 0) pe_int (fun _ _ => rfl)))) pe_int) pe_int) (pg_sub (pv 0) pe_int set_list))
      (pss_one (ps_ret (pe_op op_modN (pe_op op_fdivN (pe_ix ix_list (pv 0) pe_int (fun _ _ => rfl)) pe_int) (pv 1)))))))), ?_⟩
    have hA : H a = some (.lst (ns.map V.int)) := e0 _ _ ha
    have nda : a ≠ d := fun z => by rw [z, out] at ha; cases ha
    refine ⟨fun σ H' => ∃ (i j k : Int) (v : Option V), σ = [some (.ref d), some (.int m), v, none] ∧ H' d = some (.lst [.ref a, .int i, .int j, .int k, .int l]) ∧ 0 ≤ i ∧ 0 ≤ j ∧ 0 ≤ k ∧ k < 2000000000 ∧ Go (· = d) H0 H H0 H', ?_, ?_⟩
    · -- if draw[2] < many and draw[1] < len(draw[0])
      refine ⟨_, rfl, d, _, 2, _, rfl, rfl, SqL.of hd, at_of (j := 2) rfl rfl, _, rfl, _, _, rfl, rfl, _, rfl, ifD (fun c => ?_) (fun c => ?_)⟩
      · refine ⟨_, rfl, d, _, 1, _, rfl, rfl, SqL.of hd, at_of (j := 1) rfl rfl, _, rfl, d, _, 0, _, rfl, rfl, SqL.of hd, at_of (j := 0) rfl rfl, a, _, rfl, .inl (SqL.of hA), _, _, rfl, rfl, _, rfl, ?_⟩
        rw [List.length_map]
        refine ifD (fun c2 => ?_) (fun c2 => ?_)
        · obtain ⟨n, rfl⟩ : ∃ n : Nat, i = (n : Int) := ⟨i.toNat, by omega⟩
          have hn : n < ns.length := by omega
          have g0 := Go.refl (m := (· = d)) e0
          -- cell = draw[0][draw[1]]
          refine ⟨_, rfl, d, _, 0, _, rfl, rfl, SqL.of hd, at_of (j := 0) rfl rfl, _, rfl, d, _, 1, _, rfl, rfl, SqL.of hd, at_of (j := 1) rfl rfl, a, _, _, _, rfl, rfl, SqL.of hA, at_of (j := n) rfl (map_int (List.getElem?_eq_getElem hn)), ?_⟩
          -- draw[1] = draw[1] + 1
          refine ⟨_, rfl, d, _, 1, _, rfl, rfl, SqL.of hd, at_of (j := 1) rfl rfl, _, _, rfl, rfl, _, rfl, _, _, _, 1, rfl, rfl, hd, rfl, ?_⟩
          -- draw[2] = 0
          refine ⟨_, rfl, _, _, _, 2, rfl, rfl, upd_same, rfl, ?_⟩
          -- if cell >= 10 ** 18
          refine ⟨_, rfl, _, _, rfl, rfl, ⟨by decide, by decide, by decide⟩, _, _, rfl, rfl, _, rfl, ifD (fun c3 => ?_) (fun c3 => ?_)⟩
          · refine ⟨_, rfl, _, rfl, _, _, _, 2, rfl, rfl, upd_same, rfl, ?_⟩
            have c4 : (10 : Int) ^ (18 : Int).toNat ≤ ns[n] := c3
            exact ⟨_, ns[n], k, _, rfl, upd_same, by omega, Int.le_trans (by decide) c4, hk0, hk, ((g0.turnM _ rfl out).turnM _ rfl out).turnM _ rfl out⟩
          · refine ⟨_, rfl, d, _, 3, _, rfl, rfl, SqL.of upd_same, at_of (j := 3) rfl rfl, _, rfl, _, _, rfl, rfl, _, _, rfl, rfl, (by show (1000000007 : Int) ≠ 0; decide), _, rfl, _, _, _, 3, rfl, rfl, upd_same, rfl, ?_⟩
            have f0 := Int.fmod_nonneg_of_pos (k + ns[n]) (show (0 : Int) < 1000000007 by decide)
            have f1 := Int.fmod_lt_of_pos (k + ns[n]) (show (0 : Int) < 1000000007 by decide)
            exact ⟨_, 0, _, _, rfl, upd_same, by omega, by decide, f0, by omega, ((g0.turnM _ rfl out).turnM _ rfl out).turnM _ rfl out⟩
        · exact ⟨i, j, k, none, rfl, hd, hi, hj, hk0, hk, Go.refl e0⟩
      · exact ⟨i, j, k, none, rfl, hd, hi, hj, hk0, hk, Go.refl e0⟩
    · rintro σ' H' ⟨i, j, k, v, rfl, hd, hi, hj, hk0, hk, g⟩
      -- if draw[2] >= many
      refine ⟨_, rfl, d, _, 2, _, rfl, rfl, SqL.of hd, at_of (j := 2) rfl rfl, _, rfl, _, _, rfl, rfl, _, rfl, ifD (fun c => ?_) (fun c => ?_)⟩
      · refine ⟨_, rfl, d, _, 2, _, rfl, rfl, SqL.of hd, at_of (j := 2) rfl rfl, _, rfl, _, _, rfl, rfl, (by omega : m ≠ 0), ?_⟩
        refine ⟨_, rfl, d, _, 2, _, rfl, rfl, SqL.of hd, at_of (j := 2) rfl rfl, _, rfl, _, _, rfl, rfl, ⟨by omega, by omega⟩, _, rfl, _, _, _, 2, rfl, rfl, hd, rfl, ?_⟩
        have f0 := Int.fmod_nonneg_of_pos j m0
        have f1 := Int.fmod_lt_of_pos j m0
        have f2 : 0 ≤ j.fdiv m := Int.fdiv_nonneg hj (by omega)
        exact ⟨_, rfl, q _ _ f0 f1 (g.turnM _ rfl out) ⟨⟨a, ns, i, _, k, l, upd_same, ha, hi, f2, hk0, hk⟩, out⟩⟩
      · refine ⟨_, rfl, d, _, 4, _, rfl, rfl, SqL.of hd, at_of (j := 4) rfl rfl, _, _, rfl, rfl, _, rfl, _, _, _, 4, rfl, rfl, hd, rfl, ?_⟩
        refine ⟨_, rfl, d, _, 3, _, rfl, rfl, SqL.of upd_same, at_of (j := 3) rfl rfl, _, _, rfl, rfl, ⟨by decide, by decide, by omega⟩, _, rfl, d, _, 4, _, rfl, rfl, SqL.of upd_same, at_of (j := 4) rfl rfl, _, _, rfl, rfl, .inl ⟨by decide, by decide⟩, _, _, rfl, rfl, _, _, rfl, rfl, _, _, rfl, rfl, (by show (1000000007 : Int) ≠ 0; decide), _, rfl, _, _, _, 3, rfl, rfl, upd_same, rfl, ?_⟩
        have f0 := Int.fmod_nonneg_of_pos (k ^ Int.toNat 3 + 40503 * (l + 1) + 17) (show (0 : Int) < 1000000007 by decide)
        have f1 := Int.fmod_lt_of_pos (k ^ Int.toNat 3 + 40503 * (l + 1) + 17) (show (0 : Int) < 1000000007 by decide)
        refine ⟨_, rfl, d, _, 3, _, rfl, rfl, SqL.of upd_same, at_of (j := 3) rfl rfl, _, _, rfl, rfl, ⟨by decide, by decide⟩, _, rfl, _, _, rfl, rfl, (by omega : m ≠ 0), ?_⟩
        exact q _ _ (Int.fmod_nonneg_of_pos _ m0) (Int.fmod_lt_of_pos _ m0) ((g.turnM _ rfl out).turnM _ rfl out) ⟨⟨a, ns, i, j, _, _, upd_same, ha, hi, hj, f0, by omega⟩, out⟩
abbrev s_gap_of : Stmt := topS 10
theorem sc_gap_of : FnScope ["_law_draw", "_law_wide"] ["_law_draw"] (defScope s_gap_of) := ⟨rfl, rfl, rfl, by decide +kernel, rfl, by decide +kernel, by decide +kernel⟩
theorem ok_gap_of {f : Addr} {fd : FuncData} (F : Fun K "_law_gap_of" "_law_gap_of" s_gap_of f fd) (D__law_pick : Def P w K mg base "_law_pick" 1 spPick) : FnOk P w K mg base CX0 2 f fd ["_law_draw"] (spInts 0 999999) := by
  refine F.ok sc_gap_of (fun vs H Q E h => ?_) (fun cdv A outer s H vs Q E hr h => ?_)
  · obtain ⟨d, H0, rfl, _⟩ := h
    rfl
  · obtain ⟨d, H0, rfl, e0, hD, q⟩ := h
    refine ⟨_, (pss_cons (ps_set (i := 1) sc_gap_of.nd rfl (Or.inl rfl) (pe_ix ix_tup (pe_tup (pa_cons pe_int (pa_cons pe_int (pa_cons pe_int (pa_cons pe_int (pa_cons pe_int (pa_cons pe_int (pa_cons pe_int pa_nil)))))))) (pe_d D__law_pick (hr.mono (by decide)) rfl (pa_cons (pv 0) (pa_cons pe_int pa_nil))) (fun _ _ => rfl)))
      (pss_one (ps_ret (pe_d D__law_pick (hr.mono (by decide)) rfl (pa_cons (pv 0) (pa_cons (pv 1) pa_nil)))))), ?_⟩
    have S := Sd.here e0 hD
    refine ⟨(by show 7 ≤ sizeLine; decide), fun t ht => ?_⟩
    have S := S.put (.tup [.int 1, .int 1, .int 3, .int 12, .int 200, .int 30000, .int 400000]) ht
    refine ⟨_, rfl, d, 7, _, rfl, by decide, by decide, S.ex, S.dr, fun u H u0 u1 g hD => ?_⟩
    have S := S.call g hD
    have htt := g.up t _ upd_same
    obtain ⟨r, hr', r0, r1⟩ := get_int [.int 1, .int 1, .int 3, .int 12, .int 200, .int 30000, .int 400000] 1 400000 (fun v hv => by
      simp only [List.mem_cons, List.mem_nil_iff, or_false] at hv
      rcases hv with rfl | rfl | rfl | rfl | rfl | rfl | rfl
      all_goals exact ⟨_, rfl, by decide, by decide⟩) u u0 u1
    refine ⟨t, _, _, _, rfl, rfl, SqT.of (S.ex _ _ htt), at_of (j := u.toNat) (by omega) hr', ?_⟩
    exact ⟨_, rfl, _, rfl, d, r, _, rfl, by omega, by omega, S.ex, S.dr, fun z H z0 z1 g hD => q z _ _ z0 (by omega) (S.call g hD).go (S.call g hD).dr⟩
abbrev s_channel : Stmt := topS 11
theorem sc_channel : FnScope ["_law_draw"] ["_law_draw"] (defScope s_channel) := ⟨rfl, rfl, rfl, by decide +kernel, rfl, by decide +kernel, by decide +kernel⟩
theorem ok_channel {f : Addr} {fd : FuncData} (F : Fun K "_law_channel" "_law_channel" s_channel f fd) (D__law_pick : Def P w K mg base "_law_pick" 1 spPick) : FnOk P w K mg base CX0 2 f fd ["_law_draw"] (spInts 0 15) := by
  refine F.ok sc_channel (fun vs H Q E h => ?_) (fun cdv A outer s H vs Q E hr h => ?_)
  · obtain ⟨d, H0, rfl, _⟩ := h
    rfl
  · obtain ⟨d, H0, rfl, e0, hD, q⟩ := h
    refine ⟨_, (pss_one (ps_ret (pe_ix ix_tup (pe_tup (pa_cons (pe_d D__law_pick (hr.mono (by decide)) rfl (pa_cons (pv 0) (pa_cons pe_int pa_nil))) (pa_cons (pe_d D__law_pick (hr.mono (by decide)) rfl (pa_cons (pv 0) (pa_cons pe_int pa_nil))) pa_nil))) (pe_d D__law_pick (hr.mono (by decide)) rfl (pa_cons (pv 0) (pa_cons pe_int pa_nil))) (fun _ _ => rfl)))), ?_⟩
    have S := Sd.here e0 hD
    refine ⟨_, rfl, d, 3, _, rfl, by decide, by decide, S.ex, S.dr, fun x H x0 x1 g hD => ?_⟩
    have S := S.call g hD
    refine ⟨_, rfl, d, 16, _, rfl, by decide, by decide, S.ex, S.dr, fun y H y0 y1 g hD => ?_⟩
    have S := S.call g hD
    refine ⟨(by show 2 ≤ sizeLine; decide), fun t ht => ?_⟩
    have S := S.put (.tup [.int x, .int y]) ht
    refine ⟨_, rfl, d, 2, _, rfl, by decide, by decide, S.ex, S.dr, fun u H u0 u1 g hD => ?_⟩
    have S := S.call g hD
    have htt := g.up t _ upd_same
    obtain ⟨r, hr', r0, r1⟩ := get_int [.int x, .int y] 0 15 (fun v hv => by
      simp only [List.mem_cons, List.mem_nil_iff, or_false] at hv
      rcases hv with rfl | rfl
      · exact ⟨x, rfl, x0, by omega⟩
      · exact ⟨y, rfl, y0, by omega⟩) u u0 u1
    exact ⟨t, _, _, _, rfl, rfl, SqT.of (S.ex _ _ htt), at_of (j := u.toNat) (by omega) hr', q r _ _ r0 r1 S.go S.dr⟩
abbrev s_key : Stmt := topS 12
theorem sc_key : FnScope ["_law_draw"] ["_law_draw"] (defScope s_key) := ⟨rfl, rfl, rfl, by decide +kernel, rfl, by decide +kernel, by decide +kernel⟩
theorem ok_key {f : Addr} {fd : FuncData} (F : Fun K "_law_key" "_law_key" s_key f fd) (D__law_pick : Def P w K mg base "_law_pick" 1 spPick) : FnOk P w K mg base CX0 2 f fd ["_law_draw"] (spInts 0 127) := by
  refine F.ok sc_key (fun vs H Q E h => ?_) (fun cdv A outer s H vs Q E hr h => ?_)
  · obtain ⟨d, H0, rfl, _⟩ := h
    rfl
  · obtain ⟨d, H0, rfl, e0, hD, q⟩ := h
    refine ⟨_, (pss_one (ps_ret (pe_ix ix_tup (pe_tup (pa_cons (pe_op op_add pe_int (pe_d D__law_pick (hr.mono (by decide)) rfl (pa_cons (pv 0) (pa_cons pe_int pa_nil)))) (pa_cons (pe_d D__law_pick (hr.mono (by decide)) rfl (pa_cons (pv 0) (pa_cons pe_int pa_nil))) pa_nil))) (pe_d D__law_pick (hr.mono (by decide)) rfl (pa_cons (pv 0) (pa_cons pe_int pa_nil))) (fun _ _ => rfl)))), ?_⟩
    have S := Sd.here e0 hD
    refine ⟨_, rfl, d, 3, _, rfl, by decide, by decide, S.ex, S.dr, fun x H x0 x1 g hD => ?_⟩
    have S := S.call g hD
    refine ⟨_, _, rfl, rfl, _, rfl, d, 128, _, rfl, by decide, by decide, S.ex, S.dr, fun y H y0 y1 g hD => ?_⟩
    have S := S.call g hD
    refine ⟨(by show 2 ≤ sizeLine; decide), fun t ht => ?_⟩
    have S := S.put (.tup [.int (60 + x), .int y]) ht
    refine ⟨_, rfl, d, 2, _, rfl, by decide, by decide, S.ex, S.dr, fun u H u0 u1 g hD => ?_⟩
    have S := S.call g hD
    have htt := g.up t _ upd_same
    obtain ⟨r, hr', r0, r1⟩ := get_int [.int (60 + x), .int y] 0 127 (fun v hv => by
      simp only [List.mem_cons, List.mem_nil_iff, or_false] at hv
      rcases hv with rfl | rfl
      · exact ⟨60 + x, rfl, by omega, by omega⟩
      · exact ⟨y, rfl, y0, by omega⟩) u u0 u1
    exact ⟨t, _, _, _, rfl, rfl, SqT.of (S.ex _ _ htt), at_of (j := u.toNat) (by omega) hr', q r _ _ r0 r1 S.go S.dr⟩
abbrev s_word : Stmt := topS 13
theorem sc_word : FnScope ["_law_draw", "_law_most", "_law_signs", "_law_k"] ["_law_draw", "_law_most"] (defScope s_word) := ⟨rfl, rfl, rfl, by decide +kernel, rfl, by decide +kernel, by decide +kernel⟩
/-- a text drawn of the signs -/
def spWord : Sp := fun vs H Q _ => ∃ (d : Addr) (m : Nat) (H0 : Hp), vs = [.ref d, .int (m : Int)] ∧ m ≤ 100 ∧ Ex H0 H ∧ Dr H0 H d ∧
  ∀ (s : Str) (G0 H' : Hp), s.length ≤ m → (∀ c ∈ s.cps.toList, c ∈ signsS.cps.toList) → Go (· = d) H0 H G0 H' → Dr G0 H' d → Q (.str s) H'
theorem ok_word {f : Addr} {fd : FuncData} (F : Fun K "_law_word" "_law_word" s_word f fd) (D__law_pick : Def P w K mg base "_law_pick" 1 spPick) (m_range : mg "range" = none) : FnOk P w K mg base CX0 2 f fd ["_law_draw", "_law_most"] spWord := by
  refine F.ok sc_word (fun vs H Q E h => ?_) (fun cdv A outer s B vs Q E hr h => ?_)
  · obtain ⟨d, m, H0, rfl, _⟩ := h
    rfl
  · obtain ⟨d, m, H0, rfl, hm, e0, hD, q⟩ := h
    refine ⟨_, (pss_cons (ps_set (i := 2) sc_word.nd rfl (Or.inr rfl) pe_str)
      (pss_cons (ps_if (pt_cmpR op_eq (pe_d D__law_pick (hr.mono (by decide)) rfl (pa_cons (pv 0) (pa_cons pe_int pa_nil))) pe_int (nomark _)) (pss_one (ps_ret (pe_op op_repS (pe_ix ix_str (pv 2) (pe_d D__law_pick (hr.mono (by decide)) rfl (pa_cons (pv 0) (pa_cons pe_int pa_nil))) (fun _ _ => rfl)) (pe_d D__law_pick (hr.mono (by decide)) rfl (pa_cons (pv 0) (pa_cons (pe_op op_add (pv 1) pe_int) pa_nil)))))) pss_nil)
      (pss_one (ps_ret (pe_join pe_str (pe_lc (own := [("_law_k", 3)]) (g := gName 3) (tt := tYes) rfl sc_word.nd (pi_range1 rfl m_range (pa_cons (pe_d D__law_pick (hr.mono (by decide)) rfl (pa_cons (pv 0) (pa_cons (pe_op op_add (pv 1) pe_int) pa_nil))) pa_nil)) (blkOk_by (N := ["_law_draw", "_law_most", "_law_signs", "_law_k"]) (sc := defScope s_word) (by decide +kernel)) (fun _ _ _ _ _ => pg_name (i := 3) sc_word.nd rfl (Or.inl rfl)) (fun _ _ _ _ _ => pts_nil) (fun _ _ _ _ _ => (pe_ix ix_str (pv 2) (pe_d D__law_pick (hr.mono (by decide)) rfl (pa_cons (pv 0) (pa_cons pe_int pa_nil))) (fun _ _ => rfl))))))))), ?_⟩
    have S := Sd.here e0 hD
    have sgn : ∀ r : Int, 0 ≤ r → r < 37 → ∃ c, signsS.cps.toList[r.toNat]? = some c := fun r r0 r1 => ⟨_, List.getElem?_eq_getElem (by show r.toNat < 37; omega)⟩
    refine ⟨_, rfl, d, 2, _, rfl, by decide, by decide, S.ex, S.dr, fun x H x0 x1 g hD => ?_⟩
    have S := S.call g hD
    refine ⟨rfl, _, rfl, ifD (fun c => ?_) (fun c => ?_)⟩
    · refine ⟨_, rfl, _, rfl, d, 37, _, rfl, by decide, by decide, S.ex, S.dr, fun y H y0 y1 g hD => ?_⟩
      have S := S.call g hD
      obtain ⟨c, hc⟩ := sgn y y0 y1
      refine ⟨signsS, y, c, rfl, rfl, mem_sz (by show 37 ≤ _; decide), at_n (j := y.toNat) (by omega) hc, ?_⟩
      refine ⟨_, rfl, _, rfl, _, _, rfl, rfl, d, _, _, rfl, by omega, by omega, S.ex, S.dr, fun n H n0 n1 g hD => ?_⟩
      have S := S.call g hD
      obtain ⟨n, rfl⟩ : ∃ k : Nat, n = (k : Int) := ⟨n.toNat, by omega⟩
      refine ⟨_, n, rfl, rfl, (by show 1 ≤ 1000; decide), by omega, fun w hw hc2 => q w _ _ ?_ (fun c' h => ?_) S.go S.dr⟩
      · have : w.length = 1 * n := hw
        omega
      · have : c' ∈ [c] := hc2 c' h
        rw [List.mem_singleton.mp this]
        exact List.mem_of_getElem? hc
    · refine ⟨⟨_, rfl⟩, _, rfl, _, rfl, _, _, rfl, rfl, d, _, _, rfl, by omega, by omega, S.ex, S.dr, fun n H n0 n1 g hD => ?_⟩
      have S := S.call g hD
      obtain ⟨n, rfl⟩ : ∃ k : Nat, n = (k : Int) := ⟨n.toNat, by omega⟩
      refine ⟨_, rfl, by omega, by omega, fun D hDn => ?_⟩
      have ndD := S.dr.ne hDn
      have bD := S.go.fresh hDn
      refine lc_range (lo := 0) (n := n) (fun i H' => ∃ (ys : List Str) (G0 : Hp), H' D = some (.lst (ys.map V.str)) ∧ ys.length = i ∧ (∀ y ∈ ys, ∃ c ∈ signsS.cps.toList, y = ⟨#[c]⟩) ∧ Sd d H0 B G0 H' ∧ G0 D = none) ⟨[], _, upd_same, rfl, (fun y h => nomatch h), S.lay _ hDn, S.ex.free hDn⟩ ?_ ?_
      · rintro i H' hi ⟨ys, G0, h1, h2, h3, S1, h4⟩
        refine ⟨rfl, ?_⟩
        refine ⟨_, rfl, _, rfl, d, 37, _, rfl, by decide, by decide, S1.ex, S1.dr, fun r H2 r0 r1 g hD2 => ?_⟩
        have S2 := S1.call g hD2
        obtain ⟨c, hc⟩ := sgn r r0 r1
        have h5 := g.keep D _ h1 (fun z => ndD z.symm)
        refine ⟨signsS, r, c, rfl, rfl, mem_sz (by show 37 ≤ _; decide), at_n (j := r.toNat) (by omega) hc, _, h5, mem_lt (by rw [List.length_map]; omega), ys ++ [⟨#[c]⟩], _, ?_, by rw [List.length_append, h2]; rfl, fun y hy => ?_, S2.turn _ bD ?_ ndD, ?_⟩
        · rw [upd_same, List.map_append]
          rfl
        · rcases List.mem_append.mp hy with h | h
          · exact h3 y h
          · exact ⟨c, List.mem_of_getElem? hc, List.mem_singleton.mp h⟩
        · exact g.new D (by rw [h1]; simp) h4
        · exact g.new D (by rw [h1]; simp) h4
      · rintro H' ⟨ys, G0, h1, h2, h3, S1, h4⟩
        obtain ⟨j1, j2⟩ := join_signs ys _ h3
        refine ⟨_, D, ys, rfl, rfl, .inl (SqL.of h1), ?_, q _ _ _ (by omega) j2 S1.go S1.dr⟩
        rw [sum_signs ys _ h3]
        show ys.length + ys.length * 0 ≤ 16777216
        omega
abbrev s_thing : Stmt := topS 14
theorem sc_thing : FnScope ["_law_draw", "_law_kind", "_law_channel_here"] ["_law_draw"] (defScope s_thing) := ⟨rfl, rfl, rfl, by decide +kernel, rfl, by decide +kernel, by decide +kernel⟩
theorem thing_on {c k f : Int} (hc : 0 ≤ c ∧ c ≤ 15) (hk : 0 ≤ k ∧ k ≤ 127) (hf : 1 ≤ f ∧ f ≤ 127) : thingOk [.str "on", .int c, .int k, .int f] = true := by
  rw [thing_word (by decide)]
  show (withinV (.int c) 0 15 && (withinV (.int k) 0 127 && (withinV (.int f) 1 127 && true))) = true
  rw [win hc, win hk, win hf]
  rfl
theorem thing_off {c k f : Int} (hc : 0 ≤ c ∧ c ≤ 15) (hk : 0 ≤ k ∧ k ≤ 127) (hf : 0 ≤ f ∧ f ≤ 127) : thingOk [.str "off", .int c, .int k, .int f] = true := by
  rw [thing_word (by decide)]
  show (withinV (.int c) 0 15 && (withinV (.int k) 0 127 && (withinV (.int f) 0 127 && true))) = true
  rw [win hc, win hk, win hf]
  rfl
theorem thing_knob {c k f : Int} (hc : 0 ≤ c ∧ c ≤ 15) (hk : 0 ≤ k ∧ k ≤ 127) (hf : 0 ≤ f ∧ f ≤ 127) : thingOk [.str "knob", .int c, .int k, .int f] = true := by
  rw [thing_word (by decide)]
  show (withinV (.int c) 0 15 && (withinV (.int k) 0 127 && (withinV (.int f) 0 127 && true))) = true
  rw [win hc, win hk, win hf]
  rfl
theorem thing_voice {c k : Int} (hc : 0 ≤ c ∧ c ≤ 15) (hk : 0 ≤ k ∧ k ≤ 127) : thingOk [.str "voice", .int c, .int k] = true := by
  rw [thing_word (by decide)]
  show (withinV (.int c) 0 15 && (withinV (.int k) 0 127 && true)) = true
  rw [win hc, win hk]
  rfl
theorem thing_text {s : Str} (h : s.length ≤ 12) (hc : ∀ c ∈ s.cps.toList, c ∈ signsS.cps.toList) : thingOk [.str "mark", .str s] = true := by
  rw [thing_mark]
  show (decide (s.length ≤ 12) && s.cps.toList.all _) = true
  rw [decide_eq_true h, Bool.true_and]
  exact List.all_eq_true.mpr fun c h => decide_eq_true (hc c h)
theorem ok_thing {f : Addr} {fd : FuncData} (F : Fun K "_law_thing" "_law_thing" s_thing f fd) (D__law_pick : Def P w K mg base "_law_pick" 1 spPick) (D__law_channel : Def P w K mg base "_law_channel" 2 (spInts 0 15)) (D__law_key : Def P w K mg base "_law_key" 2 (spInts 0 127))
    (D__law_word : Def P w K mg base "_law_word" 2 spWord) : FnOk P w K mg base CX0 3 f fd ["_law_draw"] spThing := by
  refine F.ok sc_thing (fun vs H Q E h => ?_) (fun cdv A outer s B vs Q E hr h => ?_)
  · obtain ⟨d, H0, rfl, _⟩ := h
    rfl
  · obtain ⟨d, H0, rfl, e0, hD, q⟩ := h
    refine ⟨_, (pss_cons (ps_set (i := 1) sc_thing.nd rfl (Or.inl rfl) (pe_d D__law_pick (hr.mono (by decide)) rfl (pa_cons (pv 0) (pa_cons pe_int pa_nil))))
      (pss_cons (ps_set (i := 2) sc_thing.nd rfl (Or.inl rfl) (pe_d D__law_channel (hr.mono (by decide)) rfl (pa_cons (pv 0) pa_nil)))
      (pss_cons (ps_if (pt_cmpR op_lt (pv 1) pe_int (nomark _)) (pss_one (ps_ret (pe_tup (pa_cons pe_str (pa_cons (pv 2) (pa_cons (pe_d D__law_key (hr.mono (by decide)) rfl (pa_cons (pv 0) pa_nil)) (pa_cons (pe_op op_add pe_int (pe_d D__law_pick (hr.mono (by decide)) rfl (pa_cons (pv 0) (pa_cons pe_int pa_nil)))) pa_nil))))))) pss_nil)
      (pss_cons (ps_if (pt_cmpR op_lt (pv 1) pe_int (nomark _)) (pss_one (ps_ret (pe_tup (pa_cons pe_str (pa_cons (pv 2) (pa_cons (pe_d D__law_key (hr.mono (by decide)) rfl (pa_cons (pv 0) pa_nil)) (pa_cons (pe_ix ix_tup (pe_tup (pa_cons pe_int (pa_cons (pe_d D__law_pick (hr.mono (by decide)) rfl (pa_cons (pv 0) (pa_cons pe_int pa_nil))) pa_nil))) (pe_d D__law_pick (hr.mono (by decide)) rfl (pa_cons (pv 0) (pa_cons pe_int pa_nil))) (fun _ _ => rfl)) pa_nil))))))) pss_nil)
      (pss_cons (ps_if (pt_cmpR op_lt (pv 1) pe_int (nomark _)) (pss_one (ps_ret (pe_tup (pa_cons pe_str (pa_cons (pv 2) (pa_cons (pe_ix ix_tup (pe_tup (pa_cons (pe_d D__law_pick (hr.mono (by decide)) rfl (pa_cons (pv 0) (pa_cons pe_int pa_nil))) (pa_cons (pe_d D__law_pick (hr.mono (by decide)) rfl (pa_cons (pv 0) (pa_cons pe_int pa_nil))) pa_nil))) (pe_d D__law_pick (hr.mono (by decide)) rfl (pa_cons (pv 0) (pa_cons pe_int pa_nil))) (fun _ _ => rfl)) (pa_cons (pe_d D__law_pick (hr.mono (by decide)) rfl (pa_cons (pv 0) (pa_cons pe_int pa_nil))) pa_nil))))))) pss_nil)
      (pss_cons (ps_if (pt_cmpR op_eq (pv 1) pe_int (nomark _)) (pss_one (ps_ret (pe_tup (pa_cons pe_str (pa_cons (pv 2) (pa_cons (pe_d D__law_pick (hr.mono (by decide)) rfl (pa_cons (pv 0) (pa_cons pe_int pa_nil))) pa_nil)))))) pss_nil)
      (pss_one (ps_ret (pe_tup (pa_cons pe_str (pa_cons (pe_d D__law_word (hr.mono (by decide)) rfl (pa_cons (pv 0) (pa_cons pe_int pa_nil))) pa_nil))))))))))), ?_⟩
    have S := Sd.here e0 hD
    refine ⟨_, rfl, d, 12, _, rfl, by decide, by decide, S.ex, S.dr, fun k H k0 k1 g hD => ?_⟩
    have S := S.call g hD
    refine ⟨_, rfl, d, _, rfl, S.ex, S.dr, fun c G0 H c0 c1 g hD => ?_⟩
    have S := S.call g hD
    have fin : ∀ (G0 H : Hp) (xs : List V), Sd d H0 B G0 H → thingOk xs = true → (∀ x ∈ xs, Scal x) → xs.length ≤ 4 → ∀ t, H t = none → Q (.ref t) (upd H t (.tup xs)) := fun G0 H xs S h1 h2 h3 t ht =>
      q t xs _ _ h1 h2 h3 (S.put _ ht).go (S.put _ ht).dr (S.go.fresh ht) upd_same
    have sI : ∀ z : Int, Scal (.int z) := fun z => .inl ⟨z, rfl⟩
    have sS : ∀ s : Str, s.length ≤ 1000 → Scal (.str s) := fun s h => .inr ⟨s, rfl, h⟩
    refine ⟨_, rfl, _, _, rfl, rfl, _, rfl, ifD (fun h => ?_) (fun h => ?_)⟩
    · refine ⟨_, rfl, _, rfl, d, _, rfl, S.ex, S.dr, fun y G0 H y0 y1 g hD => ?_⟩
      have S := S.call g hD
      refine ⟨_, rfl, d, 127, _, rfl, by decide, by decide, S.ex, S.dr, fun z H z0 z1 g hD => ?_⟩
      have S := S.call g hD
      refine ⟨_, _, rfl, rfl, (by show 4 ≤ sizeLine; decide), fun t ht => ?_⟩
      exact fin _ _ _ S (thing_on ⟨c0, c1⟩ ⟨y0, y1⟩ ⟨by omega, by omega⟩) (by
        intro x hx
        simp only [List.mem_cons, List.mem_nil_iff, or_false] at hx
        rcases hx with rfl | rfl | rfl | rfl
        · exact sS _ (by decide)
        all_goals exact sI _) (by show 4 ≤ 4; decide) t ht
    refine ⟨_, rfl, _, _, rfl, rfl, _, rfl, ifD (fun h => ?_) (fun h => ?_)⟩
    · refine ⟨_, rfl, _, rfl, d, _, rfl, S.ex, S.dr, fun y G0 H y0 y1 g hD => ?_⟩
      have S := S.call g hD
      refine ⟨_, rfl, d, 128, _, rfl, by decide, by decide, S.ex, S.dr, fun z H z0 z1 g hD => ?_⟩
      have S := S.call g hD
      refine ⟨(by show 2 ≤ sizeLine; decide), fun t ht => ?_⟩
      have S := S.put (.tup [.int 64, .int z]) ht
      refine ⟨_, rfl, d, 2, _, rfl, by decide, by decide, S.ex, S.dr, fun u H u0 u1 g hD => ?_⟩
      have S := S.call g hD
      have htt := g.up t _ upd_same
      obtain ⟨r, hr', r0, r1⟩ := get_int [.int 64, .int z] 0 127 (fun v hv => by
        simp only [List.mem_cons, List.mem_nil_iff, or_false] at hv
        rcases hv with rfl | rfl
        · exact ⟨64, rfl, by decide, by decide⟩
        · exact ⟨z, rfl, z0, by omega⟩) u u0 u1
      refine ⟨t, _, _, _, rfl, rfl, SqT.of (S.ex _ _ htt), at_of (j := u.toNat) (by omega) hr', (by show 4 ≤ sizeLine; decide), fun t ht => ?_⟩
      exact fin _ _ _ S (thing_off ⟨c0, c1⟩ ⟨y0, y1⟩ ⟨r0, r1⟩) (by
        intro x hx
        simp only [List.mem_cons, List.mem_nil_iff, or_false] at hx
        rcases hx with rfl | rfl | rfl | rfl
        · exact sS _ (by decide)
        all_goals exact sI _) (by show 4 ≤ 4; decide) t ht
    refine ⟨_, rfl, _, _, rfl, rfl, _, rfl, ifD (fun h => ?_) (fun h => ?_)⟩
    · refine ⟨_, rfl, _, rfl, d, 3, _, rfl, by decide, by decide, S.ex, S.dr, fun y H y0 y1 g hD => ?_⟩
      have S := S.call g hD
      refine ⟨_, rfl, d, 128, _, rfl, by decide, by decide, S.ex, S.dr, fun z H z0 z1 g hD => ?_⟩
      have S := S.call g hD
      refine ⟨(by show 2 ≤ sizeLine; decide), fun t ht => ?_⟩
      have S := S.put (.tup [.int y, .int z]) ht
      refine ⟨_, rfl, d, 2, _, rfl, by decide, by decide, S.ex, S.dr, fun u H u0 u1 g hD => ?_⟩
      have S := S.call g hD
      have htt := g.up t _ upd_same
      obtain ⟨r, hr', r0, r1⟩ := get_int [.int y, .int z] 0 127 (fun v hv => by
        simp only [List.mem_cons, List.mem_nil_iff, or_false] at hv
        rcases hv with rfl | rfl
        · exact ⟨y, rfl, y0, by omega⟩
        · exact ⟨z, rfl, z0, by omega⟩) u u0 u1
      refine ⟨t, _, _, _, rfl, rfl, SqT.of (S.ex _ _ htt), at_of (j := u.toNat) (by omega) hr', _, rfl, d, 128, _, rfl, by decide, by decide, S.ex, S.dr, fun z2 H z20 z21 g hD => ?_⟩
      have S := S.call g hD
      refine ⟨(by show 4 ≤ sizeLine; decide), fun t ht => ?_⟩
      exact fin _ _ _ S (thing_knob ⟨c0, c1⟩ ⟨r0, r1⟩ ⟨z20, by omega⟩) (by
        intro x hx
        simp only [List.mem_cons, List.mem_nil_iff, or_false] at hx
        rcases hx with rfl | rfl | rfl | rfl
        · exact sS _ (by decide)
        all_goals exact sI _) (by show 4 ≤ 4; decide) t ht
    refine ⟨_, rfl, rfl, _, rfl, ifD (fun h => ?_) (fun h => ?_)⟩
    · refine ⟨_, rfl, _, rfl, d, 128, _, rfl, by decide, by decide, S.ex, S.dr, fun z H z0 z1 g hD => ?_⟩
      have S := S.call g hD
      refine ⟨(by show 3 ≤ sizeLine; decide), fun t ht => ?_⟩
      exact fin _ _ _ S (thing_voice ⟨c0, c1⟩ ⟨z0, by omega⟩) (by
        intro x hx
        simp only [List.mem_cons, List.mem_nil_iff, or_false] at hx
        rcases hx with rfl | rfl | rfl
        · exact sS _ (by decide)
        all_goals exact sI _) (by show 3 ≤ 4; decide) t ht
    · refine ⟨_, rfl, d, 12, _, rfl, by decide, S.ex, S.dr, fun s G0 H s1 s2 g hD => ?_⟩
      have S := S.call g hD
      refine ⟨(by show 2 ≤ sizeLine; decide), fun t ht => ?_⟩
      exact fin _ _ _ S (thing_text s1 s2) (by
        intro x hx
        simp only [List.mem_cons, List.mem_nil_iff, or_false] at hx
        rcases hx with rfl | rfl
        · exact sS _ (by decide)
        · exact sS _ (by omega)) (by show 2 ≤ 4; decide) t ht
abbrev s_track : Stmt := topS 15
theorem sc_track : FnScope ["_law_draw", "_law_most", "_law_found", "_law_tick", "_law_k"] ["_law_draw", "_law_most"] (defScope s_track) := ⟨rfl, rfl, rfl, by decide +kernel, rfl, by decide +kernel, by decide +kernel⟩
theorem ok_track {f : Addr} {fd : FuncData} (F : Fun K "_law_track" "_law_track" s_track f fd) (D__law_pick : Def P w K mg base "_law_pick" 1 spPick) (D__law_gap_of : Def P w K mg base "_law_gap_of" 2 (spInts 0 999999)) (D__law_thing : Def P w K mg base "_law_thing" 3 spThing) (m_range : mg "range" = none) (m_min : mg "min" = none) : FnOk P w K mg base CX0 4 f fd ["_law_draw", "_law_most"] spTrack := by
  refine F.ok sc_track (fun vs H Q E h => ?_) (fun cdv A outer s B vs Q E hr h => ?_)
  · obtain ⟨d, m, H0, rfl, _⟩ := h
    rfl
  · obtain ⟨d, m, H0, rfl, hm, e0, hD, q⟩ := h
    refine ⟨_, (pss_cons (ps_set (i := 2) sc_track.nd rfl (Or.inl rfl) (pe_lst pa_nil))
      (pss_cons (ps_set (i := 3) sc_track.nd rfl (Or.inl rfl) pe_int)
      (pss_cons (ps_for PassesOwn.never rfl (pi_range1 rfl m_range (pa_cons (pe_d D__law_pick (hr.mono (by decide)) rfl (pa_cons (pv 0) (pa_cons (pe_op op_add (pv 1) pe_int) pa_nil))) pa_nil)) (pg_name (i := 4) sc_track.nd rfl (Or.inl rfl)) (pss_cons (ps_set (i := 3) sc_track.nd rfl (Or.inl rfl) (pe_callB (call_min2 rfl) (by rfl) m_min bt_min (pa_cons pe_int (pa_cons (pe_op op_add (pv 3) (pe_d D__law_gap_of (hr.mono (by decide)) rfl (pa_cons (pv 0) pa_nil))) pa_nil))))
      (pss_one (ps_expr (pe_bm PySem.F.plainAttrs_list PySem.F.slot_list_append PySem.F.type_list_append mt_append (pv 2) (pa_cons (pe_op op_catA (pe_tup (pa_cons (pv 3) pa_nil)) (pe_d D__law_thing (hr.mono (by decide)) rfl (pa_cons (pv 0) pa_nil))) pa_nil))))))
      (pss_one (ps_ret (pv 2)))))), ?_⟩
    have S := Sd.here e0 hD
    -- found = []
    refine ⟨(by show 0 ≤ sizeLine; decide), fun p hp => ?_⟩
    have np := S.dr.ne hp
    have S := S.lay (.lst []) hp
    refine ⟨_, rfl, _, rfl, _, _, rfl, rfl, d, _, _, rfl, by omega, by omega, S.ex, S.dr, fun n H n0 n1 g hD => ?_⟩
    have hp1 := g.keep p _ upd_same (fun z => np z.symm)
    have h0p := g.new p (by rw [upd_same]; simp) (e0.free hp)
    have S := S.call g hD
    obtain ⟨n, rfl⟩ : ∃ k : Nat, n = (k : Int) := ⟨n.toNat, by omega⟩
    refine ⟨_, rfl, by omega, by omega, for_range (lo := 0) (n := n) (fun i σ H' => ∃ (v4 : Option V) (t : Int) (ps : List Addr) (evs : List (List V)) (G0 : Hp), σ = [some (.ref d), some (.int (m : Int)), some (.ref p), some (.int t), v4] ∧ 0 ≤ t ∧ t ≤ 999999 ∧ Sd d H0 B G0 H' ∧ H' p = some (.lst (ps.map V.ref)) ∧ G0 p = none ∧ Evs G0 ps evs ∧ evs.length = i ∧ (∀ xs ∈ evs, GoodEv xs) ∧ Rise evs ∧ (∀ xs ∈ evs, tickOf xs ≤ t))
      ⟨none, 0, [], [], _, rfl, by decide, by decide, S, hp1, h0p, Evs.nil _, rfl, (fun x h => nomatch h), (fun i x y h => by simp at h), (fun x h => nomatch h)⟩ ?_ ?_⟩
    · clear S hp1 h0p hD g
      rintro i σ H hi ⟨v4, t, ps, evs, G0, rfl, t0, t1, S, hpp, h0p, hev, hl, hg, hrise, hle⟩
      -- tick = min(999999, tick + gap_of(draw))
      refine ⟨_, rfl, _, rfl, d, _, rfl, S.ex, S.dr, fun z G0 H z0 z1 g hD => ?_⟩
      have h0p := g.new p (by rw [hpp]; simp) h0p
      have hpp := g.keep p _ hpp (fun z => np z.symm)
      have S := S.call g hD
      have hev := hev.up g.up
      refine ⟨_, _, rfl, rfl, _, _, rfl, ?_⟩
      obtain ⟨t', et, h1, h2, h3⟩ : ∃ t', (if t + z < 999999 then t + z else 999999) = t' ∧ t ≤ t' ∧ 0 ≤ t' ∧ t' ≤ 999999 := by
        refine ⟨_, rfl, ?_⟩
        split <;> omega
      rw [et]
      -- found.append((tick,) + thing(draw))
      refine ⟨_, rfl, .inl ⟨rfl, _, SqL.of hpp⟩, _, rfl, (by show 1 ≤ sizeLine; decide), fun a ha => ?_⟩
      have hap : p ≠ a := ne_of_none hpp ha
      have hpp : upd _ a (.tup [.int t']) p = _ := (upd_ne hap).trans hpp
      have h0p : upd _ a (.tup [.int t']) p = none := (upd_ne hap).trans h0p
      have hev := hev.up (Ex.new (o := .tup [.int t']) (S.ex.free ha))
      have S := S.put (.tup [.int t']) ha
      refine ⟨_, rfl, d, _, rfl, S.ex, S.dr, fun b ys G0 H ok sc ln g hD _ hb => ?_⟩
      have h0p := g.new p (by rw [hpp]; simp) h0p
      have hpp := g.keep p _ hpp (fun z => np z.symm)
      have hev := hev.up g.up
      have haa := g.up a _ upd_same
      have S := S.call g hD
      refine cat_x S haa hb (by show 1 + _ ≤ 1000; omega) fun c G1 H1 S1 x1 y1 k1 hc => ?_
      have h0p := k1 p (by rw [hpp]; simp) h0p
      have hpp := y1 _ _ hpp
      have hev := hev.up x1
      have S2 := S1.turn (.lst (ps.map V.ref ++ [.ref c])) hp h0p np
      have gd := good_mk h2 h3 ok ln
      refine ⟨p, _, _, rfl, rfl, hpp, mem_lt (by rw [List.length_map, hev.1]; omega), _, t', ps ++ [c], evs ++ [.int t' :: ys], G1, rfl, h2, h3, S2, ?_, h0p, hev.snoc hc, by rw [List.length_append, hl]; rfl, fun xs hx => ?_, fun j x y hx hy => ?_, fun xs hx => ?_⟩
      · rw [upd_same, List.map_append]
        rfl
      · rcases List.mem_append.mp hx with h | h
        · exact hg xs h
        · rw [List.mem_singleton.mp h]
          exact gd
      · have ly := (List.getElem?_eq_some_iff.mp hy).1
        rw [List.length_append] at ly
        have ly : j + 1 < evs.length + 1 := ly
        rw [List.getElem?_append_left (by omega)] at hx
        by_cases e : j + 1 < evs.length
        · rw [List.getElem?_append_left e] at hy
          exact hrise j x y hx hy
        · rw [List.getElem?_append_right (by omega), show j + 1 - evs.length = 0 by omega] at hy
          cases hy
          exact Int.le_trans (hle x (List.mem_of_getElem? hx)) h1
      · rcases List.mem_append.mp hx with h | h
        · exact Int.le_trans (hle xs h) h1
        · rw [List.mem_singleton.mp h]
          exact Int.le_refl _
    · rintro σ H ⟨v4, t, ps, evs, G0, rfl, t0, t1, S, hpp, h0p, hev, hl, hg, hrise, hle⟩
      exact ⟨_, rfl, q p ps evs _ _ S.go S.dr hp hpp h0p hev (by omega) hg hrise⟩
abbrev s_same : Stmt := topS 16
theorem sc_same : FnScope ["_law_found", "_law_due", "_law_k"] ["_law_found", "_law_due"] (defScope s_same) := ⟨rfl, rfl, rfl, by decide +kernel, rfl, by decide +kernel, by decide +kernel⟩
def spRec (K : PySem.W.Frag) (n : Nat) : Sp := fun vs H Q E => ∃ m, n = m + 1 ∧ spSame K m vs H Q E
theorem same_step {f : Addr} {fd : FuncData} (n : Nat) (F : Fun K "_law_same" "_law_same" s_same f fd) (D__law_same : Def P w K mg base "_law_same" n (spRec K n)) (m_isinstance : mg "isinstance" = none) (m_bool : mg "bool" = none) (m_int : mg "int" = none) (m_str : mg "str" = none)
    (m_list : mg "list" = none) (m_tuple : mg "tuple" = none) (m_len : mg "len" = none) (m_all : mg "all" = none) (m_range : mg "range" = none) : FnOk P w K mg base CX0 (n + 1) f fd ["_law_found", "_law_due"] (spSame K n) := by
  refine F.ok sc_same (fun vs H Q E h => ?_) (fun cdv A outer s H vs Q E hr h => ?_)
  · obtain ⟨v, u, d, H0, rfl, _⟩ := h
    rfl
  · obtain ⟨v, u, d, H0, rfl, e0, hv, hu, hdep, hsm, q⟩ := h
    refine ⟨_, (pss_cons (ps_if (pt_cmpR op_isN (pv 1) pe_non (nomark _)) (pss_one (ps_ret (pe_cmpR op_isN (pv 0) pe_non (nomark _)))) pss_nil)
      (pss_cons (ps_if (PW.pt (pw_or (pt_val (pe_callB call_isi (by rfl) m_isinstance bt_isinstance (pa_cons (pv 1) (pa_cons (pe_bltn (v := .ty "bool") (by rfl) m_bool bt_bool rfl) pa_nil)))) (pw_or1 (pt_val (pe_callB call_isi (by rfl) m_isinstance bt_isinstance (pa_cons (pv 0) (pa_cons (pe_bltn (v := .ty "bool") (by rfl) m_bool bt_bool rfl) pa_nil))))))) (pss_one (ps_ret (pe_and (pe_callB call_isi (by rfl) m_isinstance bt_isinstance (pa_cons (pv 1) (pa_cons (pe_bltn (v := .ty "bool") (by rfl) m_bool bt_bool rfl) pa_nil))) (pe_and (pe_callB call_isi (by rfl) m_isinstance bt_isinstance (pa_cons (pv 0) (pa_cons (pe_bltn (v := .ty "bool") (by rfl) m_bool bt_bool rfl) pa_nil))) (pe_one (pe_cmpR op_eq (pv 0) (pv 1) (nomark _))))))) pss_nil)
      (pss_cons (ps_if (pt_val (pe_callB call_isiT (by rfl) m_isinstance bt_isinstance (pa_cons (pv 1) (pa_cons (pe_tup (pa_cons (pe_bltn (v := .ty "int") (by rfl) m_int bt_int rfl) (pa_cons (pe_bltn (v := .ty "str") (by rfl) m_str bt_str rfl) pa_nil))) pa_nil)))) (pss_one (ps_ret (pe_and (pe_cmpR op_eq (pe_callB call_isi (by rfl) m_isinstance bt_isinstance (pa_cons (pv 0) (pa_cons (pe_bltn (v := .ty "int") (by rfl) m_int bt_int rfl) pa_nil))) (pe_callB call_isi (by rfl) m_isinstance bt_isinstance (pa_cons (pv 1) (pa_cons (pe_bltn (v := .ty "int") (by rfl) m_int bt_int rfl) pa_nil))) (nomark _)) (pe_and (pe_callB call_isiT (by rfl) m_isinstance bt_isinstance (pa_cons (pv 0) (pa_cons (pe_tup (pa_cons (pe_bltn (v := .ty "int") (by rfl) m_int bt_int rfl) (pa_cons (pe_bltn (v := .ty "str") (by rfl) m_str bt_str rfl) pa_nil))) pa_nil))) (pe_one (pe_cmpR op_eq (pv 0) (pv 1) (nomark _))))))) pss_nil)
      (pss_cons (ps_if (PW.pt (pw_or (pt_cmpR op_ne (pe_callB call_isi (by rfl) m_isinstance bt_isinstance (pa_cons (pv 0) (pa_cons (pe_bltn (v := .ty "list") (by rfl) m_list bt_list rfl) pa_nil))) (pe_callB call_isi (by rfl) m_isinstance bt_isinstance (pa_cons (pv 1) (pa_cons (pe_bltn (v := .ty "list") (by rfl) m_list bt_list rfl) pa_nil))) (nomark _)) (pw_or1 (pt_cmpR op_ne (pe_callB call_isi (by rfl) m_isinstance bt_isinstance (pa_cons (pv 0) (pa_cons (pe_bltn (v := .ty "tuple") (by rfl) m_tuple bt_tuple rfl) pa_nil))) (pe_callB call_isi (by rfl) m_isinstance bt_isinstance (pa_cons (pv 1) (pa_cons (pe_bltn (v := .ty "tuple") (by rfl) m_tuple bt_tuple rfl) pa_nil))) (nomark _))))) (pss_one (ps_ret pe_bl)) pss_nil)
      (pss_one (ps_ret (pe_and (pe_cmpR op_eq (pe_callB call_len_seq (by rfl) m_len PySem.boot_len (pa_cons (pv 0) pa_nil)) (pe_callB call_len_seq (by rfl) m_len PySem.boot_len (pa_cons (pv 1) pa_nil)) (nomark _)) (pe_one (pe_callB (cr_all rfl) (by rfl) m_all bt_all (pa_cons (pe_lc (own := [("_law_k", 2)]) (g := gName 2) (tt := tYes) rfl sc_same.nd (pi_range1 rfl m_range (pa_cons (pe_callB call_len_seq (by rfl) m_len PySem.boot_len (pa_cons (pv 1) pa_nil)) pa_nil)) (blkOk_by (N := ["_law_found", "_law_due", "_law_k"]) (sc := defScope s_same) (by decide +kernel)) (fun _ _ _ _ _ => pg_name (i := 2) sc_same.nd rfl (Or.inl rfl)) (fun _ _ _ _ _ => pts_nil) (fun _ _ _ _ _ => (pe_d D__law_same hr rfl (pa_cons (pe_ix (r := rIx K) ix_seq (pv 0) (pv 2) (fun _ _ => rfl)) (pa_cons (pe_ix (r := rIx K) ix_seq (pv 1) (pv 2) (fun _ _ => rfl)) pa_nil))))) pa_nil)))))))))), ?_⟩
    have g0 := Go.refl (m := fun _ => False) e0
    cases hu with
    | non =>
      cases hv
      refine ⟨_, rfl, rfl, _, rfl, ifT rfl ?_⟩
      exact ⟨_, rfl, rfl, q _ g0⟩
    | bl b =>
      cases hv
      refine ⟨_, rfl, rfl, _, rfl, ifF rfl ?_⟩
      refine ⟨_, rfl, _, _, _, _, true, rfl, .ty "bool", .base (.bl b), kit_ty (by decide +kernel), _, rfl, ifT rfl ?_⟩
      refine ⟨_, rfl, _, _, _, _, true, rfl, .ty "bool", .base (.bl b), kit_ty (by decide +kernel), _, rfl, ifT rfl ?_⟩
      refine ⟨_, rfl, _, _, _, _, true, rfl, .ty "bool", .base (.bl b), kit_ty (by decide +kernel), _, rfl, ifT rfl ?_⟩
      refine ⟨_, rfl, _, rfl, rfl, ?_⟩
      rw [decide_eq_true rfl]
      exact q _ g0
    | int i =>
      cases hv
      refine ⟨_, rfl, rfl, _, rfl, ifF rfl ?_⟩
      refine ⟨_, rfl, _, _, _, _, false, rfl, .ty "bool", .base (.int i), kit_ty (by decide +kernel), _, rfl, ifF rfl ?_⟩
      refine ⟨_, rfl, _, _, _, _, false, rfl, .ty "bool", .base (.int i), kit_ty (by decide +kernel), _, rfl, ifF rfl ?_⟩
      refine ⟨_, rfl, (by show 2 ≤ sizeLine; decide), fun t ht => ?_⟩
      have g1 := g0.lay (.tup [.ty "int", .ty "str"]) ht
      refine ⟨_, t, _, _, [.type "int", .type "str"], true, rfl, upd_same, .cons (.ty _) (.cons (.ty _) .nil), .base (.int i), kitAny_cons (b := true) (kit_ty (by decide +kernel)) (fun z => nomatch z) (fun _ => rfl), _, rfl, ifT rfl ?_⟩
      refine ⟨_, rfl, _, _, _, _, true, rfl, .ty "int", .base (.int i), kit_ty (by decide +kernel), _, rfl, _, _, _, _, true, rfl, .ty "int", .base (.int i), kit_ty (by decide +kernel), rfl, _, rfl, ifT rfl ?_⟩
      refine ⟨_, rfl, (by show 2 ≤ sizeLine; decide), fun t2 ht2 => ?_⟩
      have g2 := g1.lay (.tup [.ty "int", .ty "str"]) ht2
      refine ⟨_, t2, _, _, [.type "int", .type "str"], true, rfl, upd_same, .cons (.ty _) (.cons (.ty _) .nil), .base (.int i), kitAny_cons (b := true) (kit_ty (by decide +kernel)) (fun z => nomatch z) (fun _ => rfl), _, rfl, ifT rfl ?_⟩
      refine ⟨_, rfl, _, rfl, rfl, ?_⟩
      rw [decide_eq_true rfl]
      exact q _ g2
    | str x =>
      cases hv
      refine ⟨_, rfl, rfl, _, rfl, ifF rfl ?_⟩
      refine ⟨_, rfl, _, _, _, _, false, rfl, .ty "bool", .base (.str x), kit_ty (by decide +kernel), _, rfl, ifF rfl ?_⟩
      refine ⟨_, rfl, _, _, _, _, false, rfl, .ty "bool", .base (.str x), kit_ty (by decide +kernel), _, rfl, ifF rfl ?_⟩
      refine ⟨_, rfl, (by show 2 ≤ sizeLine; decide), fun t ht => ?_⟩
      have g1 := g0.lay (.tup [.ty "int", .ty "str"]) ht
      refine ⟨_, t, _, _, [.type "int", .type "str"], true, rfl, upd_same, .cons (.ty _) (.cons (.ty _) .nil), .base (.str x), kitAny_cons (b := false) (kit_ty (by decide +kernel)) (fun _ => kitAny_cons (b := true) (kit_ty (by decide +kernel)) (fun z => nomatch z) (fun _ => rfl)) (fun z => nomatch z), _, rfl, ifT rfl ?_⟩
      refine ⟨_, rfl, _, _, _, _, false, rfl, .ty "int", .base (.str x), kit_ty (by decide +kernel), _, rfl, _, _, _, _, false, rfl, .ty "int", .base (.str x), kit_ty (by decide +kernel), rfl, _, rfl, ifT rfl ?_⟩
      refine ⟨_, rfl, (by show 2 ≤ sizeLine; decide), fun t2 ht2 => ?_⟩
      have g2 := g1.lay (.tup [.ty "int", .ty "str"]) ht2
      refine ⟨_, t2, _, _, [.type "int", .type "str"], true, rfl, upd_same, .cons (.ty _) (.cons (.ty _) .nil), .base (.str x), kitAny_cons (b := false) (kit_ty (by decide +kernel)) (fun _ => kitAny_cons (b := true) (kit_ty (by decide +kernel)) (fun z => nomatch z) (fun _ => rfl)) (fun z => nomatch z), _, rfl, ifT rfl ?_⟩
      refine ⟨_, rfl, _, rfl, rfl, ?_⟩
      rw [decide_eq_true rfl]
      exact q _ g2
    | @lst pu us ds su au =>
      cases hv with
      | @lst pv_ vs _ sv av =>
      refine ⟨_, rfl, rfl, _, rfl, ifF rfl ?_⟩
      refine ⟨_, rfl, _, _, _, _, false, rfl, .ty "bool", tyL su, kit_ty (by decide +kernel), _, rfl, ifF rfl ?_⟩
      refine ⟨_, rfl, _, _, _, _, false, rfl, .ty "bool", tyL sv, kit_ty (by decide +kernel), _, rfl, ifF rfl ?_⟩
      refine ⟨_, rfl, (by show 2 ≤ sizeLine; decide), fun t ht => ?_⟩
      have g1 := g0.lay (.tup [.ty "int", .ty "str"]) ht
      have x1 := go_ex g1
      refine ⟨_, t, _, _, [.type "int", .type "str"], false, rfl, upd_same, .cons (.ty _) (.cons (.ty _) .nil), tyL (x1.seq su), kitAny_cons (b := false) (kit_ty (by decide +kernel)) (fun _ => kitAny_cons (b := false) (kit_ty (by decide +kernel)) (fun _ => kitAny_nil) (fun z => nomatch z)) (fun z => nomatch z), _, rfl, ifF rfl ?_⟩
      refine ⟨_, rfl, _, _, _, _, true, rfl, .ty "list", tyL (x1.seq sv), kit_ty (by decide +kernel), _, rfl, _, _, _, _, true, rfl, .ty "list", tyL (x1.seq su), kit_ty (by decide +kernel), rfl, _, rfl, ifF rfl ?_⟩
      refine ⟨_, rfl, _, _, _, _, false, rfl, .ty "tuple", tyL (x1.seq sv), kit_ty (by decide +kernel), _, rfl, _, _, _, _, false, rfl, .ty "tuple", tyL (x1.seq su), kit_ty (by decide +kernel), rfl, _, rfl, ifF rfl ?_⟩
      have lv := dpa_len av
      have lu := dpa_len au
      refine ⟨_, rfl, pv_, vs, rfl, .inl (x1.seq sv), _, rfl, pu, us, rfl, .inl (x1.seq su), rfl, _, rfl, ifT (decide_eq_true (by rw [lv, lu])) ?_⟩
      refine ⟨_, rfl, pu, us, rfl, .inl (x1.seq su), _, rfl, by omega, by have := hsm.1; omega, fun D hD => lc_range (lo := 0) (n := us.length) (fun i H' => H' D = some (.lst (List.replicate i (.bl true))) ∧ Go (fun _ => False) H0 H H0 H') ⟨upd_same, g1.lay _ hD⟩ (fun i H' hi p => ?_) (fun H1 p => ?_)⟩
      · obtain ⟨d, hd⟩ : ∃ d, ds[i]? = some d := ⟨_, List.getElem?_eq_getElem (by omega)⟩
        obtain ⟨a, ha, da⟩ := dpa_at _ _ i d av hd
        obtain ⟨b, hb, db⟩ := dpa_at _ _ i d au hd
        have dd := dep_at hd
        have xp := go_ex p.2
        obtain ⟨m, rfl⟩ : ∃ m, n = m + 1 := ⟨n - 1, by have : PyData.depthAll ds + 1 ≤ n := hdep; omega⟩
        have dm : d.depth ≤ m := by
          have : PyData.depthAll ds + 1 ≤ m + 1 := hdep
          omega
        refine ⟨rfl, ?_⟩
        refine ⟨_, rfl, _, rfl, .inl ⟨pv_, vs, _, a, rfl, rfl, xp.seq sv, at_of (j := i) (by omega) ha, _, rfl, _, rfl, .inl ⟨pu, us, _, b, rfl, rfl, xp.seq su, at_of (j := i) (by omega) hb, ?_⟩⟩⟩
        refine ⟨m, rfl, a, b, d, H0, rfl, p.2.inn, dp_up xp _ _ da, dp_up xp _ _ db, dm, sm_at hsm.2 hd, fun H2 g2 => ?_⟩
        have hD2 := g2.keep _ _ p.1 (fun z => z)
        refine ⟨_, hD2, mem_lt (by have := hsm.1; rw [List.length_replicate]; omega), ?_, (p.2.then g2).turn _ (g1.fresh hD) (g1.fresh0 hD)⟩
        rw [upd_same, List.replicate_succ']
      · have pn : H1 D = some (.lst ((List.replicate us.length true).map V.bl)) := by rw [p.1, List.map_replicate]
        refine ⟨D, _, rfl, SqL.of pn, ?_⟩
        rw [all_rep]
        exact q _ p.2
    | @tup pu us ds su au =>
      cases hv with
      | @tup pv_ vs _ sv av =>
      refine ⟨_, rfl, rfl, _, rfl, ifF rfl ?_⟩
      refine ⟨_, rfl, _, _, _, _, false, rfl, .ty "bool", tyT su, kit_ty (by decide +kernel), _, rfl, ifF rfl ?_⟩
      refine ⟨_, rfl, _, _, _, _, false, rfl, .ty "bool", tyT sv, kit_ty (by decide +kernel), _, rfl, ifF rfl ?_⟩
      refine ⟨_, rfl, (by show 2 ≤ sizeLine; decide), fun t ht => ?_⟩
      have g1 := g0.lay (.tup [.ty "int", .ty "str"]) ht
      have x1 := go_ex g1
      refine ⟨_, t, _, _, [.type "int", .type "str"], false, rfl, upd_same, .cons (.ty _) (.cons (.ty _) .nil), tyT (x1.tup su), kitAny_cons (b := false) (kit_ty (by decide +kernel)) (fun _ => kitAny_cons (b := false) (kit_ty (by decide +kernel)) (fun _ => kitAny_nil) (fun z => nomatch z)) (fun z => nomatch z), _, rfl, ifF rfl ?_⟩
      refine ⟨_, rfl, _, _, _, _, false, rfl, .ty "list", tyT (x1.tup sv), kit_ty (by decide +kernel), _, rfl, _, _, _, _, false, rfl, .ty "list", tyT (x1.tup su), kit_ty (by decide +kernel), rfl, _, rfl, ifF rfl ?_⟩
      refine ⟨_, rfl, _, _, _, _, true, rfl, .ty "tuple", tyT (x1.tup sv), kit_ty (by decide +kernel), _, rfl, _, _, _, _, true, rfl, .ty "tuple", tyT (x1.tup su), kit_ty (by decide +kernel), rfl, _, rfl, ifF rfl ?_⟩
      have lv := dpa_len av
      have lu := dpa_len au
      refine ⟨_, rfl, pv_, vs, rfl, .inr (x1.tup sv), _, rfl, pu, us, rfl, .inr (x1.tup su), rfl, _, rfl, ifT (decide_eq_true (by rw [lv, lu])) ?_⟩
      refine ⟨_, rfl, pu, us, rfl, .inr (x1.tup su), _, rfl, by omega, by have := hsm.1; omega, fun D hD => lc_range (lo := 0) (n := us.length) (fun i H' => H' D = some (.lst (List.replicate i (.bl true))) ∧ Go (fun _ => False) H0 H H0 H') ⟨upd_same, g1.lay _ hD⟩ (fun i H' hi p => ?_) (fun H1 p => ?_)⟩
      · obtain ⟨d, hd⟩ : ∃ d, ds[i]? = some d := ⟨_, List.getElem?_eq_getElem (by omega)⟩
        obtain ⟨a, ha, da⟩ := dpa_at _ _ i d av hd
        obtain ⟨b, hb, db⟩ := dpa_at _ _ i d au hd
        have dd := dep_at hd
        have xp := go_ex p.2
        obtain ⟨m, rfl⟩ : ∃ m, n = m + 1 := ⟨n - 1, by have : PyData.depthAll ds + 1 ≤ n := hdep; omega⟩
        have dm : d.depth ≤ m := by
          have : PyData.depthAll ds + 1 ≤ m + 1 := hdep
          omega
        refine ⟨rfl, ?_⟩
        refine ⟨_, rfl, _, rfl, .inr (.inl ⟨pv_, vs, _, a, rfl, rfl, xp.tup sv, at_of (j := i) (by omega) ha, _, rfl, _, rfl, .inr (.inl ⟨pu, us, _, b, rfl, rfl, xp.tup su, at_of (j := i) (by omega) hb, ?_⟩)⟩)⟩
        refine ⟨m, rfl, a, b, d, H0, rfl, p.2.inn, dp_up xp _ _ da, dp_up xp _ _ db, dm, sm_at hsm.2 hd, fun H2 g2 => ?_⟩
        have hD2 := g2.keep _ _ p.1 (fun z => z)
        refine ⟨_, hD2, mem_lt (by have := hsm.1; rw [List.length_replicate]; omega), ?_, (p.2.then g2).turn _ (g1.fresh hD) (g1.fresh0 hD)⟩
        rw [upd_same, List.replicate_succ']
      · have pn : H1 D = some (.lst ((List.replicate us.length true).map V.bl)) := by rw [p.1, List.map_replicate]
        refine ⟨D, _, rfl, SqL.of pn, ?_⟩
        rw [all_rep]
        exact q _ p.2
theorem ok_same {f : Addr} {fd : FuncData} (F : Fun K "_law_same" "_law_same" s_same f fd) (bF : L2.Binds K fd ["_law_found", "_law_due"] []) (gF : mg "_law_same" = some (.ref f)) (m_isinstance : mg "isinstance" = none) (m_bool : mg "bool" = none) (m_int : mg "int" = none) (m_str : mg "str" = none)
    (m_list : mg "list" = none) (m_tuple : mg "tuple" = none) (m_len : mg "len" = none) (m_all : mg "all" = none) (m_range : mg "range" = none) : ∀ n, FnOk P w K mg base CX0 (n + 1) f fd ["_law_found", "_law_due"] (spSame K n)
  | 0 => same_step 0 F ⟨f, fd, _, _, gF, ⟨fun _ _ _ _ ⟨_, e, _⟩ => by omega, fun _ _ _ _ _ _ _ _ _ _ _ _ _ ⟨_, e, _⟩ => by omega⟩, F.kp, bF, .nil⟩ m_isinstance m_bool m_int m_str m_list m_tuple m_len m_all m_range
  | n + 1 => same_step (n + 1) F ⟨f, fd, _, _, gF, (ok_same F bF gF m_isinstance m_bool m_int m_str m_list m_tuple m_len m_all m_range n).imp fun vs H Q E ⟨m, e, h⟩ => by
      obtain rfl : m = n := by omega
      exact h, F.kp, bF, .nil⟩ m_isinstance m_bool m_int m_str m_list m_tuple m_len m_all m_range
end
end Rt

namespace Rt
open PySem PySem.Spec PyProof.Rows L2 RZ TL LamX
section
variable [TabsT] {P : Program} {w : World} {K : PySem.W.Frag} {mg : Str → Option Value} {base : Heap}
abbrev s_law_k41 : Stmt := topS 17
theorem sc_law_k41 : FnScope ["_law_script", "_law_draw", "_law_tracks", "_law_rows", "_law_ticks", "_law_more", "_law_k", "_law_track_here", "_law_event"] ["_law_script"] (defScope s_law_k41) := ⟨rfl, rfl, rfl, by decide +kernel, rfl, by decide +kernel, by decide +kernel⟩
theorem ints_pl {l : List Int} (h : l.length ≤ 100000) : (Z.lst (intsZ l)).pl = true ∧ (Z.lst (intsZ l)).dep ≤ 1 := by
  refine ⟨?_, ?_⟩
  · show (decide ((intsZ l).length ≤ 100000) && Z.pls (intsZ l)) = true
    rw [pls_ints, Bool.and_true]
    exact decide_eq_true (by unfold intsZ; rw [List.length_map]; exact h)
  · show Z.deps (intsZ l) + 1 ≤ 1
    rw [deps_ints]
    exact Nat.le_refl _
theorem trk_pair {es : List Evt} (h : Trk es) : (es.map Evt.tick).Pairwise (· ≤ ·) := by
  rw [List.pairwise_map]
  rw [List.pairwise_iff_getElem]
  intro i j hi hj hij
  have := rise_le h.up (j - i) i es[i] es[j] (List.getElem?_eq_getElem hi) (by rw [show i + (j - i) = j by omega]; exact List.getElem?_eq_getElem hj)
  exact this
theorem sorted_same {l m : List Int} (p : m.Perm l) (hm : m.Pairwise (· ≤ ·)) (hl : l.Pairwise (· ≤ ·)) : m = l := p.eq_of_pairwise (fun a b _ _ h1 h2 => Int.le_antisymm h1 h2) hm hl
def rwsFr (tss : List (List Evt)) (k : Nat) : List (Nat × Evt) := (tss.zipIdx k).flatMap fun p => p.1.map fun e => (p.2, e)
theorem rwsFr_cons (t : List Evt) (tss : List (List Evt)) (k : Nat) : rwsFr (t :: tss) k = (t.map fun e => (k, e)) ++ rwsFr tss (k + 1) := rfl
theorem filt_here (t : List Evt) (k : Nat) : ((t.map fun e => (k, e)).filter fun p => decide (p.1 = k)) = t.map fun e => (k, e) := by
  rw [List.filter_eq_self]
  intro p hp
  obtain ⟨e, _, rfl⟩ := List.mem_map.mp hp
  exact decide_eq_true rfl
theorem filt_else (t : List Evt) {k j : Nat} (h : k ≠ j) : ((t.map fun e => (k, e)).filter fun p => decide (p.1 = j)) = [] := by
  rw [List.filter_eq_nil_iff]
  intro p hp
  obtain ⟨e, _, rfl⟩ := List.mem_map.mp hp
  simpa using h
theorem rwsFr_filt : ∀ (tss : List (List Evt)) (k j : Nat), ((rwsFr tss k).filter fun p => decide (p.1 = j)) = if k ≤ j then ((tss[j - k]?).getD []).map (fun e => (j, e)) else []
  | [], k, j => by
    show [] = _
    split
    · rfl
    · rfl
  | t :: tss, k, j => by
    rw [rwsFr_cons, List.filter_append, rwsFr_filt tss (k + 1) j]
    by_cases h : k = j
    · subst h
      rw [filt_here, if_neg (by omega), if_pos (Nat.le_refl _), Nat.sub_self, List.append_nil]
      rfl
    · rw [filt_else t h, List.nil_append]
      by_cases c : k ≤ j
      · rw [if_pos c, if_pos (by omega), show j - k = (j - (k + 1)) + 1 by omega]
        rfl
      · rw [if_neg c, if_neg (by omega)]
theorem rowsT_filt (tss : List (List Evt)) (j : Nat) : ((rowsT tss).filter fun p => decide (p.1 = j)) = ((tss[j]?).getD []).map fun e => (j, e) := by
  have := rwsFr_filt tss 0 j
  rw [if_pos (Nat.zero_le _), Nat.sub_zero] at this
  exact this
theorem rwsFr_mem : ∀ (tss : List (List Evt)) (k : Nat), ∀ p ∈ rwsFr tss k, p.1 < k + tss.length
  | [], k, p, h => nomatch h
  | t :: tss, k, p, h => by
    rw [rwsFr_cons] at h
    rcases List.mem_append.mp h with h | h
    · obtain ⟨e, _, rfl⟩ := List.mem_map.mp h
      rw [List.length_cons]
      show k < _
      omega
    · have := rwsFr_mem tss (k + 1) p h
      rw [List.length_cons]
      omega
theorem rwsFr_length : ∀ (tss : List (List Evt)) (k : Nat), (rwsFr tss k).length = (tss.map List.length).sum
  | [], k => rfl
  | t :: tss, k => by
    rw [rwsFr_cons, List.length_append, List.length_map, rwsFr_length tss (k + 1)]
    rfl
theorem rwsFr_app : ∀ (tss : List (List Evt)) (k : Nat), rwsFr (tss ++ [[], []]) k = rwsFr tss k
  | [], k => rfl
  | t :: tss, k => by
    show rwsFr (t :: (tss ++ [[], []])) k = _
    rw [rwsFr_cons, rwsFr_cons, rwsFr_app tss (k + 1)]
theorem mergeT_perm (tss : List (List Evt)) : (mergeT tss).Perm (rowsT tss) := List.mergeSort_perm _ _
theorem ordR_trans (a b c : Nat × Evt) (h1 : ordR a b = true) (h2 : ordR b c = true) : ordR a c = true := decide_eq_true (Int.le_trans (of_decide_eq_true h1) (of_decide_eq_true h2))
theorem ordR_total (a b : Nat × Evt) : (ordR a b || ordR b a) = true := by
  rw [Bool.or_eq_true]
  rcases Int.le_total a.2.tick b.2.tick with h | h
  · exact .inl (decide_eq_true h)
  · exact .inr (decide_eq_true h)
theorem mergeT_mem {tss : List (List Evt)} {p : Nat × Evt} (h : p ∈ mergeT tss) : p.1 < tss.length := by
  have := rwsFr_mem tss 0 p ((mergeT_perm tss).mem_iff.mp h)
  omega
def RisT (tss : List (List Evt)) : Prop := ∀ es ∈ tss, (es.map Evt.tick).Pairwise (· ≤ ·)
theorem mergeT_filt {tss : List (List Evt)} (hr : RisT tss) (j : Nat) : ((mergeT tss).filter fun p => decide (p.1 = j)) = ((tss[j]?).getD []).map fun e => (j, e) := by
  have e0 := rowsT_filt tss j
  have hp : (((tss[j]?).getD []).map fun e => (j, e)).Pairwise (fun a b => ordR a b = true) := by
    rw [List.pairwise_map]
    cases h : tss[j]? with
    | none => exact List.Pairwise.nil
    | some t =>
      have := hr t (List.mem_of_getElem? h)
      rw [List.pairwise_map] at this
      exact this.imp fun h => decide_eq_true h
  have hs : (((tss[j]?).getD []).map fun e => (j, e)).Sublist (rowsT tss) := by
    rw [← e0]
    exact List.filter_sublist
  have h1 := List.sublist_mergeSort ordR_trans ordR_total hp hs
  have h2 := h1.filter fun p => decide (p.1 = j)
  rw [filt_here] at h2
  refine (h2.eq_of_length ?_).symm
  have h3 := ((mergeT_perm tss).filter fun p => decide (p.1 = j)).length_eq
  rw [e0] at h3
  exact h3.symm
theorem part_merge {tss : List (List Evt)} (hr : RisT tss) (n : Nat) : partT (mergeT tss) n = (List.range n).map fun j => (tss[j]?).getD [] := by
  unfold partT
  refine List.map_congr_left fun j _ => ?_
  rw [mergeT_filt hr j, List.map_map]
  exact List.map_id _
theorem range_get : ∀ (tss : List (List Evt)), ((List.range tss.length).map fun j => (tss[j]?).getD []) = tss := fun tss => by
  apply List.ext_getElem?
  intro i
  rw [List.getElem?_map]
  by_cases h : i < tss.length
  · rw [List.getElem?_range h, List.getElem?_eq_getElem h]
    show some ((tss[i]?).getD []) = _
    rw [List.getElem?_eq_getElem h]
    rfl
  · rw [List.getElem?_eq_none (by rw [List.length_range]; omega), List.getElem?_eq_none (by omega)]
    rfl
theorem part_same {tss : List (List Evt)} (hr : RisT tss) : partT (mergeT tss) tss.length = tss := (part_merge hr _).trans (range_get tss)
theorem part_more {tss : List (List Evt)} (hr : RisT tss) : partT (mergeT tss) (tss.length + 2) = tss ++ [[], []] := by
  rw [part_merge hr, List.range_succ, List.range_succ, List.map_append, List.map_append, range_get]
  show tss ++ [(tss[tss.length]?).getD []] ++ [(tss[tss.length + 1]?).getD []] = _
  rw [List.getElem?_eq_none (Nat.le_refl _), List.getElem?_eq_none (Nat.le_succ _), List.append_assoc]
  rfl
theorem merge_more (tss : List (List Evt)) : mergeT (tss ++ [[], []]) = mergeT tss := by
  unfold mergeT
  rw [show rowsT (tss ++ [[], []]) = rowsT tss from rwsFr_app tss 0]
theorem merge_one {t : List Evt} (h : (t.map Evt.tick).Pairwise (· ≤ ·)) : mergeT [t] = t.map fun e => (0, e) := by
  have e : rowsT [t] = t.map fun e => (0, e) := by
    show (t.map fun e => (0, e)) ++ [] = _
    rw [List.append_nil]
  unfold mergeT
  rw [e]
  refine List.mergeSort_of_pairwise ?_
  rw [List.pairwise_map] at h ⊢
  exact h.imp fun h => decide_eq_true h
theorem merge_up (tss : List (List Evt)) : ((mergeT tss).map fun p => p.2.tick).Pairwise (· ≤ ·) := by
  rw [List.pairwise_map]
  exact (List.pairwise_mergeSort ordR_trans ordR_total (rowsT tss)).imp fun h => of_decide_eq_true h
theorem mergeT_len (tss : List (List Evt)) : (mergeT tss).length = (tss.map List.length).sum := by
  rw [(mergeT_perm tss).length_eq]
  exact rwsFr_length tss 0
theorem tss_pl {tss : List (List Evt)} (h : ∀ es ∈ tss, (trackZ es).pl = true ∧ (trackZ es).dep ≤ 2) (hl : tss.length ≤ 10000) : (Z.lst (tss.map trackZ)).pl = true ∧ (Z.lst (tss.map trackZ)).dep ≤ 3 := by
  have p : ∀ l : List (List Evt), (∀ x ∈ l, (trackZ x).pl = true ∧ (trackZ x).dep ≤ 2) → Z.pls (l.map trackZ) = true ∧ Z.deps (l.map trackZ) ≤ 2 := by
    intro l
    induction l with
    | nil => intro _; exact ⟨rfl, Nat.zero_le _⟩
    | cons e l ih =>
      intro hk
      obtain ⟨i1, i2⟩ := ih fun x hx => hk x (.tail _ hx)
      have a := hk e (.head _)
      refine ⟨?_, Nat.max_le.mpr ⟨a.2, i2⟩⟩
      show ((trackZ e).pl && Z.pls (l.map trackZ)) = true
      rw [a.1, i1]
      rfl
  obtain ⟨p1, p2⟩ := p tss h
  refine ⟨?_, Nat.succ_le_succ p2⟩
  show (decide ((tss.map trackZ).length ≤ 100000) && Z.pls (tss.map trackZ)) = true
  rw [p1, Bool.and_true]
  exact decide_eq_true (by rw [List.length_map]; omega)
theorem sum_len : ∀ tss : List (List Evt), (tss.map fun es => (es.length : Int)).sum = (((tss.map List.length).sum : Nat) : Int)
  | [] => rfl
  | t :: tss => by
    rw [List.map_cons, List.map_cons, List.sum_cons, List.sum_cons, sum_len tss]
    omega
theorem cut_two (tss : List (List Evt)) : cutZ ((tss ++ [[], []]).map trackZ) (some (-2)) none = [.lst [], .lst []] := by
  have l1 : ((tss ++ [[], []]).map trackZ).length = tss.length + 2 := by rw [List.length_map, List.length_append]; rfl
  have s1 : HT.sIx (tss.length + 2) 0 (some (-2)) = tss.length := by
    unfold HT.sIx
    simp
    omega
  have s2 : HT.sIx (tss.length + 2) (tss.length + 2) none = tss.length + 2 := rfl
  unfold cutZ
  rw [l1, s1, s2, List.map_append, List.drop_append_of_le_length (by rw [List.length_map]; exact Nat.le_refl _), List.drop_eq_nil_of_le (by rw [List.length_map]; exact Nat.le_refl _), show tss.length + 2 - tss.length = 2 by omega]
  rfl
theorem cut_one (t : List Evt) (tss : List (List Evt)) : cutZ ((t :: tss).map trackZ) none (some 1) = [trackZ t] := by
  have s2 : HT.sIx (tss.length + 1) (tss.length + 1) (some 1) = 1 := by
    unfold HT.sIx
    simp
  unfold cutZ
  rw [List.length_map, List.length_cons, s2]
  rfl
theorem rw_pl {n : Nat} {e : Evt} (h : e.Ok) : (rwE (n, e)).pl = true ∧ (rwE (n, e)).dep ≤ 2 := pair_pl (n := 1) ⟨rfl, Nat.zero_le _⟩ ⟨(ev_pl h).1, Nat.le_of_eq (ev_pl h).2⟩
theorem rws_pl {tss : List (List Evt)} (h : ∀ es ∈ tss, ∀ e ∈ es, e.Ok) (hl : (mergeT tss).length ≤ 10000) : (Z.lst ((mergeT tss).map rwE)).pl = true ∧ (Z.lst ((mergeT tss).map rwE)).dep ≤ 3 := by
  have p : ∀ l : List (Nat × Evt), (∀ x ∈ l, x.2.Ok) → Z.pls (l.map rwE) = true ∧ Z.deps (l.map rwE) ≤ 2 := by
    intro l
    induction l with
    | nil => intro _; exact ⟨rfl, Nat.zero_le _⟩
    | cons e l ih =>
      intro hk
      obtain ⟨i1, i2⟩ := ih fun x hx => hk x (.tail _ hx)
      have a := rw_pl (n := e.1) (hk e (.head _))
      refine ⟨?_, Nat.max_le.mpr ⟨a.2, i2⟩⟩
      show ((rwE e).pl && Z.pls (l.map rwE)) = true
      rw [show (rwE e).pl = true from a.1, i1]
      rfl
  have g : ∀ (tss : List (List Evt)) (k : Nat), (∀ es ∈ tss, ∀ e ∈ es, e.Ok) → ∀ p ∈ rwsFr tss k, p.2.Ok := by
    intro tss
    induction tss with
    | nil => intro k _ p h; exact nomatch h
    | cons t tss ih =>
      intro k hk p hp
      rw [rwsFr_cons] at hp
      rcases List.mem_append.mp hp with hp | hp
      · obtain ⟨e, he, rfl⟩ := List.mem_map.mp hp
        exact hk t (.head _) e he
      · exact ih (k + 1) (fun es he => hk es (.tail _ he)) p hp
  obtain ⟨p1, p2⟩ := p (mergeT tss) fun x hx => g tss 0 h x ((mergeT_perm tss).mem_iff.mp hx)
  refine ⟨?_, Nat.succ_le_succ p2⟩
  show (decide (((mergeT tss).map rwE).length ≤ 100000) && Z.pls ((mergeT tss).map rwE)) = true
  rw [p1, Bool.and_true]
  exact decide_eq_true (by rw [List.length_map]; omega)
theorem ok_law {f : Addr} {fd : FuncData} (F : Fun K "law" "law" s_law_k41 f fd) (D__law_begin : Def P w K mg base "_law_begin" 1 (spBegin K))
    (D__law_pick : Def P w K mg base "_law_pick" 1 (spZd K rzPick)) (D__law_track : Def P w K mg base "_law_track" 4 (spZd K rzTrack)) (D__law_same : Def P w K mg base "_law_same" 5 (spZ K mg (rzSame 4))) (D_merged : Def P w K mg base "merged" 4 (spZ K mg rzMerged)) (D_parted : Def P w K mg base "parted" 2 (spZ K mg rzParted0)) (m_range : mg "range" = none) (m_len : mg "len" = none) (m_sum : mg "sum" = none) (m_sorted : mg "sorted" = none) : FnOk P w K mg base CX0 7 f fd ["_law_script"] (spLawT K) := by
  refine F.ok sc_law_k41 (fun vs H Q E h => ?_) (fun cdv A outer s H vs Q E hr h => ?_)
  · obtain ⟨a, ns, rfl, _⟩ := h
    rfl
  refine ⟨_, (pss_cons (ps_set (i := 1) sc_law_k41.nd rfl (Or.inr rfl) (pe_d D__law_begin (hr.mono (by decide)) rfl (pa_cons (pv 0) pa_nil)))
      (pss_cons (ps_setLc (i := 2) (own := [("_law_k", 6)]) (g := gName 6) (tt := tYes) rfl sc_law_k41.nd rfl rfl (sw_true rfl rfl rfl (by decide +kernel)) (pi_range1 rfl m_range (pa_cons (pe_op op_add pe_int (pe_d D__law_pick (hr.mono (by decide)) rfl (pa_cons (pv 1) (pa_cons pe_int pa_nil)))) pa_nil)) (blkOk_by (N := ["_law_script", "_law_draw", "_law_tracks", "_law_rows", "_law_ticks", "_law_more", "_law_k", "_law_track_here", "_law_event"]) (sc := defScope s_law_k41) (by decide +kernel)) (fun _ _ _ _ _ => pg_name (i := 6) sc_law_k41.nd rfl (Or.inl rfl)) (fun _ _ _ _ _ => pts_nil) (fun _ _ _ _ _ => (pe_d D__law_track (hr.mono (by decide)) rfl (pa_cons (pv 1) (pa_cons pe_int pa_nil)))))
      (pss_cons (ps_set (i := 3) sc_law_k41.nd rfl (Or.inl rfl) (pe_d D_merged (hr.mono (by decide)) rfl (pa_cons (pv 2) pa_nil)))
      (pss_cons (ps_if (PW.pt (pw_or (pt_not (pt_val (pe_d D__law_same (hr.mono (by decide)) rfl (pa_cons (pe_d D_parted (hr.mono (by decide)) rfl (pa_cons (pv 3) (pa_cons (pe_callB call_len_seq (by rfl) m_len PySem.boot_len (pa_cons (pv 2) pa_nil)) pa_nil))) (pa_cons (pv 2) pa_nil))))) (pw_or1 (pt_cmpR op_ne (pe_callB call_len_seq (by rfl) m_len PySem.boot_len (pa_cons (pv 3) pa_nil)) (pe_callB (cr_sum rfl) (by rfl) m_sum bt_sum (pa_cons (pe_lc (own := [("_law_track_here", 7)]) (g := gName 7) (tt := tYes) rfl sc_law_k41.nd (pi_list (pv 2)) (blkOk_by (N := ["_law_script", "_law_draw", "_law_tracks", "_law_rows", "_law_ticks", "_law_more", "_law_k", "_law_track_here", "_law_event"]) (sc := defScope s_law_k41) (by decide +kernel)) (fun _ _ _ _ _ => pg_name (i := 7) sc_law_k41.nd rfl (Or.inl rfl)) (fun _ _ _ _ _ => pts_nil) (fun _ _ _ _ _ => (pe_callB (r := rLenQ K) call_lenQ (by rfl) m_len PySem.boot_len (pa_cons (pv 7) pa_nil)))) pa_nil)) (nomark _))))) (pss_one (ps_ret pe_bl)) pss_nil)
      (pss_cons (ps_setLc (i := 4) (own := [("_law_k", 6), ("_law_event", 8)]) (g := gTup K 2 (gCons (gName 6) (gCons (gName 8) gNil))) (tt := tYes) rfl sc_law_k41.nd rfl rfl (sw_true rfl rfl rfl (by decide +kernel)) (pi_list (pv 3)) (blkOk_by (N := ["_law_script", "_law_draw", "_law_tracks", "_law_rows", "_law_ticks", "_law_more", "_law_k", "_law_track_here", "_law_event"]) (sc := defScope s_law_k41) (by decide +kernel)) (fun _ _ _ _ _ => (pg_tup rfl (pgs_cons (pg_name (i := 6) sc_law_k41.nd rfl (Or.inl rfl)) (pgs_cons (pg_name (i := 8) sc_law_k41.nd rfl (Or.inl rfl)) pgs_nil)))) (fun _ _ _ _ _ => pts_nil) (fun _ _ _ _ _ => (pe_ix (r := rIxT K) ix_tup (pv 8) pe_int (fun _ _ => rfl))))
      (pss_cons (ps_if (pt_cmpR (op_neD hr.units) (pv 4) (pe_callB cr_sortedI (by rfl) m_sorted bt_sorted (pa_cons (pv 4) pa_nil)) (nomark _)) (pss_one (ps_ret pe_bl)) pss_nil)
      (pss_cons (ps_set (i := 5) sc_law_k41.nd rfl (Or.inl rfl) (pe_d D_parted (hr.mono (by decide)) rfl (pa_cons (pv 3) (pa_cons (pe_op op_add (pe_callB call_len_seq (by rfl) m_len PySem.boot_len (pa_cons (pv 2) pa_nil)) pe_int) pa_nil))))
      (pss_one (ps_ret (pe_and (pe_cmpR (op_eqD hr.units) (pe_slice sl_list (pv 5) (po_some (pe_un un_neg pe_int)) po_none) (pe_lst (pa_cons (pe_lst pa_nil) (pa_cons (pe_lst pa_nil) pa_nil))) (nomark _)) (pe_and (pe_cmpR (op_eqD hr.units) (pe_d D_merged (hr.mono (by decide)) rfl (pa_cons (pv 5) pa_nil)) (pv 3) (nomark _)) (pe_one (pe_cmpR (op_eqD hr.units) (pe_d D_merged (hr.mono (by decide)) rfl (pa_cons (pe_slice sl_list (pv 2) po_none (po_some pe_int)) pa_nil)) (pe_lc (own := [("_law_event", 8)]) (g := gName 8) (tt := tYes) rfl sc_law_k41.nd (pi_list (pe_ix ix_list (pv 2) pe_int (fun _ _ => rfl))) (blkOk_by (N := ["_law_script", "_law_draw", "_law_tracks", "_law_rows", "_law_ticks", "_law_more", "_law_k", "_law_track_here", "_law_event"]) (sc := defScope s_law_k41) (by decide +kernel)) (fun _ _ _ _ _ => pg_name (i := 8) sc_law_k41.nd rfl (Or.inl rfl)) (fun _ _ _ _ _ => pts_nil) (fun _ _ _ _ _ => (pe_tup (pa_cons pe_int (pa_cons (pv 8) pa_nil))))) (nomark _)))))))))))))), law_reads (n := 7) h rfl (z_cons (z_set 2 (z_lc (zi_rng1 (za_cons (z_op s_add z_int (z_draw (za_cons z_int za_nil))) za_nil)) (zg_name 6) gw_name z_yes (z_draw (za_cons z_int za_nil))))
      (z_cons (z_set 3 (z_callS (za_cons (z_var 2) za_nil) .nil))
      (z_cons (z_if (z_tOr (z_tNot (z_tB (z_call (za_cons (z_callS (za_cons (z_var 3) (za_cons (z_callB s_len (za_cons (z_var 2) za_nil)) za_nil)) .nil) (za_cons (z_var 2) za_nil)) .nil))) (z_tTest (z_op s_ne (z_callB s_len (za_cons (z_var 3) za_nil)) (z_callB s_sum (za_cons (z_lc (zi_list (z_var 2)) (zg_name 7) gw_name z_yes (z_callB s_len (za_cons (z_var 7) za_nil))) za_nil))))) (z_ret z_bl) z_nil)
      (z_cons (z_set 4 (z_lc (zi_list (z_var 3)) (zg_tup (zg_cons (zg_name 6) (zg_cons (zg_name 8) zg_nil))) (gw_tup (gw_cons gw_name (gw_cons gw_name gw_nil))) z_yes (z_op s_ixT (z_var 8) z_int)))
      (z_cons (z_if (z_tTest (z_op s_neD (z_var 4) (z_callB s_sorted (za_cons (z_var 4) za_nil)))) (z_ret z_bl) z_nil)
      (z_cons (z_set 5 (z_callS (za_cons (z_var 3) (za_cons (z_op s_add (z_callB s_len (za_cons (z_var 2) za_nil)) z_int) za_nil)) .nil))
      (z_ret (z_andV (z_op s_eqD (z_slice s_slL (z_var 5) (zo_some (z_un s_neg z_int)) zo_none) (z_lst (za_cons (z_lst za_nil) (za_cons (z_lst za_nil) za_nil)))) (z_andV (z_op s_eqD (z_callS (za_cons (z_var 5) za_nil) .nil) (z_var 3)) (z_op s_eqD (z_callS (za_cons (z_slice s_slL (z_var 2) zo_none (zo_some z_int)) za_nil) .nil) (z_lc (zi_list (z_op s_ixL (z_var 2) z_int)) (zg_name 8) gw_name z_yes (z_tup (za_cons z_int (za_cons (z_var 8) za_nil)))))))))))))) fun d => ?_⟩
  (conv => whnf); repeat (first | (refine And.intro (⟨by decide, by decide, by decide⟩ : CPow _ _) ?_; conv => whnf) | (refine And.intro (⟨by decide, by decide⟩ : CDiv _ _) ?_; conv => whnf) | (refine And.intro (Or.inr ⟨by decide, by decide⟩ : CMul _ _) ?_; conv => whnf) | (refine And.intro (by decide : Int.natAbs _ < (_ : Nat)) ?_; conv => whnf) | (refine And.intro (by decide : (_ : Int) ≤ _ ∧ _ < (2 : Int) ^ 62) ?_; conv => whnf) | (refine And.intro (by decide : (0 : Int) < _) ?_; conv => whnf) | (refine And.intro (rfl : List.length _ = _) ?_; conv => whnf) | (refine And.intro (vZs_imm _ : Z.imms _ = true) ?_; conv => whnf) | (refine And.intro (rfl : gw _ _ = _) ?_; conv => whnf) | (refine And.intro (of_decide_eq_true rfl : _ + _ ≤ (1000000 : Nat)) ?_; conv => whnf) | (refine And.intro (of_decide_eq_true rfl : _ < (1000000 : Nat)) ?_; conv => whnf) | (refine And.intro (rfl : Z.imm _ = true) ?_; conv => whnf) | (refine And.intro (rfl : Z.imms _ = true) ?_; conv => whnf) | (refine Exists.intro _ (And.intro (rfl : atI _ _ = some _) ?_); conv => whnf) | (refine zite_t (by decide) ?_; conv => whnf) | (refine zite_f (by decide) ?_; conv => whnf) | (refine zite_t rfl ?_; conv => whnf) | (refine zite_f rfl ?_; conv => whnf))
  refine ⟨6, rfl, by decide, by decide, fun r r0 r1 => ?_⟩
  (conv => whnf); repeat (first | (refine And.intro (⟨by decide, by decide, by decide⟩ : CPow _ _) ?_; conv => whnf) | (refine And.intro (⟨by decide, by decide⟩ : CDiv _ _) ?_; conv => whnf) | (refine And.intro (Or.inr ⟨by decide, by decide⟩ : CMul _ _) ?_; conv => whnf) | (refine And.intro (by decide : Int.natAbs _ < (_ : Nat)) ?_; conv => whnf) | (refine And.intro (by decide : (_ : Int) ≤ _ ∧ _ < (2 : Int) ^ 62) ?_; conv => whnf) | (refine And.intro (by decide : (0 : Int) < _) ?_; conv => whnf) | (refine And.intro (rfl : List.length _ = _) ?_; conv => whnf) | (refine And.intro (vZs_imm _ : Z.imms _ = true) ?_; conv => whnf) | (refine And.intro (rfl : gw _ _ = _) ?_; conv => whnf) | (refine And.intro (of_decide_eq_true rfl : _ + _ ≤ (1000000 : Nat)) ?_; conv => whnf) | (refine And.intro (of_decide_eq_true rfl : _ < (1000000 : Nat)) ?_; conv => whnf) | (refine And.intro (rfl : Z.imm _ = true) ?_; conv => whnf) | (refine And.intro (rfl : Z.imms _ = true) ?_; conv => whnf) | (refine Exists.intro _ (And.intro (rfl : atI _ _ = some _) ?_); conv => whnf) | (refine zite_t (by decide) ?_; conv => whnf) | (refine zite_f (by decide) ?_; conv => whnf) | (refine zite_t rfl ?_; conv => whnf) | (refine zite_f rfl ?_; conv => whnf))
  refine ⟨⟨by omega, by omega⟩, ?_⟩
  refine LiP.inv (zs := (List.range (1 + r).toNat).map fun i => Z.int (0 + (i : Nat))) (by rw [List.length_map, List.length_range]; omega) (fun i acc => ∃ tss : List (List Evt), acc = tss.map trackZ ∧ tss.length = i ∧ ∀ es ∈ tss, Trk es ∧ es.length ≤ 30) ⟨[], rfl, rfl, fun q h => nomatch h⟩ (fun i z acc hz e => ?_) fun acc e => ?_
  · obtain ⟨tss, rfl, tl, to⟩ := e
    (conv => whnf); repeat (first | (refine And.intro (⟨by decide, by decide, by decide⟩ : CPow _ _) ?_; conv => whnf) | (refine And.intro (⟨by decide, by decide⟩ : CDiv _ _) ?_; conv => whnf) | (refine And.intro (Or.inr ⟨by decide, by decide⟩ : CMul _ _) ?_; conv => whnf) | (refine And.intro (by decide : Int.natAbs _ < (_ : Nat)) ?_; conv => whnf) | (refine And.intro (by decide : (_ : Int) ≤ _ ∧ _ < (2 : Int) ^ 62) ?_; conv => whnf) | (refine And.intro (by decide : (0 : Int) < _) ?_; conv => whnf) | (refine And.intro (rfl : List.length _ = _) ?_; conv => whnf) | (refine And.intro (vZs_imm _ : Z.imms _ = true) ?_; conv => whnf) | (refine And.intro (rfl : gw _ _ = _) ?_; conv => whnf) | (refine And.intro (of_decide_eq_true rfl : _ + _ ≤ (1000000 : Nat)) ?_; conv => whnf) | (refine And.intro (of_decide_eq_true rfl : _ < (1000000 : Nat)) ?_; conv => whnf) | (refine And.intro (rfl : Z.imm _ = true) ?_; conv => whnf) | (refine And.intro (rfl : Z.imms _ = true) ?_; conv => whnf) | (refine Exists.intro _ (And.intro (rfl : atI _ _ = some _) ?_); conv => whnf) | (refine zite_t (by decide) ?_; conv => whnf) | (refine zite_f (by decide) ?_; conv => whnf) | (refine zite_t rfl ?_; conv => whnf) | (refine zite_f rfl ?_; conv => whnf))
    refine ⟨30, rfl, by decide, fun es hl hok hup => ?_⟩
    (conv => whnf); repeat (first | (refine And.intro (⟨by decide, by decide, by decide⟩ : CPow _ _) ?_; conv => whnf) | (refine And.intro (⟨by decide, by decide⟩ : CDiv _ _) ?_; conv => whnf) | (refine And.intro (Or.inr ⟨by decide, by decide⟩ : CMul _ _) ?_; conv => whnf) | (refine And.intro (by decide : Int.natAbs _ < (_ : Nat)) ?_; conv => whnf) | (refine And.intro (by decide : (_ : Int) ≤ _ ∧ _ < (2 : Int) ^ 62) ?_; conv => whnf) | (refine And.intro (by decide : (0 : Int) < _) ?_; conv => whnf) | (refine And.intro (rfl : List.length _ = _) ?_; conv => whnf) | (refine And.intro (vZs_imm _ : Z.imms _ = true) ?_; conv => whnf) | (refine And.intro (rfl : gw _ _ = _) ?_; conv => whnf) | (refine And.intro (of_decide_eq_true rfl : _ + _ ≤ (1000000 : Nat)) ?_; conv => whnf) | (refine And.intro (of_decide_eq_true rfl : _ < (1000000 : Nat)) ?_; conv => whnf) | (refine And.intro (rfl : Z.imm _ = true) ?_; conv => whnf) | (refine And.intro (rfl : Z.imms _ = true) ?_; conv => whnf) | (refine Exists.intro _ (And.intro (rfl : atI _ _ = some _) ?_); conv => whnf) | (refine zite_t (by decide) ?_; conv => whnf) | (refine zite_f (by decide) ?_; conv => whnf) | (refine zite_t rfl ?_; conv => whnf) | (refine zite_f rfl ?_; conv => whnf))
    refine ⟨tss ++ [es], by rw [List.map_append]; rfl, by rw [List.length_append, tl]; rfl, fun q hq => ?_⟩
    rcases List.mem_append.mp hq with hq | hq
    · exact to q hq
    · rw [List.mem_singleton.mp hq]
      exact ⟨⟨hok, hup⟩, hl⟩
  obtain ⟨tss, rfl, tl, to⟩ := e
  rw [List.length_map, List.length_range] at tl
  have tl1 : 1 ≤ tss.length ∧ tss.length ≤ 6 := by omega
  have ris : RisT tss := fun es h => trk_pair (to es h).1
  have hm : ∀ es ∈ tss, es.length ≤ 100 := fun es h => by have := (to es h).2; omega
  have rl := rowsT_len hm
  have ml : (mergeT tss).length ≤ 600 := by rw [(mergeT_perm tss).length_eq]; omega
  have spl := tss_pl (tss := tss) (fun es h => track_pl (to es h).1.ok (by have := (to es h).2; omega)) (by omega)
  (conv => whnf); repeat (first | (refine And.intro (⟨by decide, by decide, by decide⟩ : CPow _ _) ?_; conv => whnf) | (refine And.intro (⟨by decide, by decide⟩ : CDiv _ _) ?_; conv => whnf) | (refine And.intro (Or.inr ⟨by decide, by decide⟩ : CMul _ _) ?_; conv => whnf) | (refine And.intro (by decide : Int.natAbs _ < (_ : Nat)) ?_; conv => whnf) | (refine And.intro (by decide : (_ : Int) ≤ _ ∧ _ < (2 : Int) ^ 62) ?_; conv => whnf) | (refine And.intro (by decide : (0 : Int) < _) ?_; conv => whnf) | (refine And.intro (rfl : List.length _ = _) ?_; conv => whnf) | (refine And.intro (vZs_imm _ : Z.imms _ = true) ?_; conv => whnf) | (refine And.intro (rfl : gw _ _ = _) ?_; conv => whnf) | (refine And.intro (of_decide_eq_true rfl : _ + _ ≤ (1000000 : Nat)) ?_; conv => whnf) | (refine And.intro (of_decide_eq_true rfl : _ < (1000000 : Nat)) ?_; conv => whnf) | (refine And.intro (rfl : Z.imm _ = true) ?_; conv => whnf) | (refine And.intro (rfl : Z.imms _ = true) ?_; conv => whnf) | (refine Exists.intro _ (And.intro (rfl : atI _ _ = some _) ?_); conv => whnf) | (refine zite_t (by decide) ?_; conv => whnf) | (refine zite_f (by decide) ?_; conv => whnf) | (refine zite_t rfl ?_; conv => whnf) | (refine zite_f rfl ?_; conv => whnf))
  refine ⟨tss, rfl, by omega, hm, ?_⟩
  (conv => whnf); repeat (first | (refine And.intro (⟨by decide, by decide, by decide⟩ : CPow _ _) ?_; conv => whnf) | (refine And.intro (⟨by decide, by decide⟩ : CDiv _ _) ?_; conv => whnf) | (refine And.intro (Or.inr ⟨by decide, by decide⟩ : CMul _ _) ?_; conv => whnf) | (refine And.intro (by decide : Int.natAbs _ < (_ : Nat)) ?_; conv => whnf) | (refine And.intro (by decide : (_ : Int) ≤ _ ∧ _ < (2 : Int) ^ 62) ?_; conv => whnf) | (refine And.intro (by decide : (0 : Int) < _) ?_; conv => whnf) | (refine And.intro (rfl : List.length _ = _) ?_; conv => whnf) | (refine And.intro (vZs_imm _ : Z.imms _ = true) ?_; conv => whnf) | (refine And.intro (rfl : gw _ _ = _) ?_; conv => whnf) | (refine And.intro (of_decide_eq_true rfl : _ + _ ≤ (1000000 : Nat)) ?_; conv => whnf) | (refine And.intro (of_decide_eq_true rfl : _ < (1000000 : Nat)) ?_; conv => whnf) | (refine And.intro (rfl : Z.imm _ = true) ?_; conv => whnf) | (refine And.intro (rfl : Z.imms _ = true) ?_; conv => whnf) | (refine Exists.intro _ (And.intro (rfl : atI _ _ = some _) ?_); conv => whnf) | (refine zite_t (by decide) ?_; conv => whnf) | (refine zite_f (by decide) ?_; conv => whnf) | (refine zite_t rfl ?_; conv => whnf) | (refine zite_f rfl ?_; conv => whnf))
  have le : (tss.map trackZ).length = tss.length := List.length_map ..
  refine ⟨mergeT tss, tss.length, by rw [le]; rfl, by omega, by omega, fun p hp => mergeT_mem hp, ?_⟩
  rw [part_same ris]
  (conv => whnf); repeat (first | (refine And.intro (⟨by decide, by decide, by decide⟩ : CPow _ _) ?_; conv => whnf) | (refine And.intro (⟨by decide, by decide⟩ : CDiv _ _) ?_; conv => whnf) | (refine And.intro (Or.inr ⟨by decide, by decide⟩ : CMul _ _) ?_; conv => whnf) | (refine And.intro (by decide : Int.natAbs _ < (_ : Nat)) ?_; conv => whnf) | (refine And.intro (by decide : (_ : Int) ≤ _ ∧ _ < (2 : Int) ^ 62) ?_; conv => whnf) | (refine And.intro (by decide : (0 : Int) < _) ?_; conv => whnf) | (refine And.intro (rfl : List.length _ = _) ?_; conv => whnf) | (refine And.intro (vZs_imm _ : Z.imms _ = true) ?_; conv => whnf) | (refine And.intro (rfl : gw _ _ = _) ?_; conv => whnf) | (refine And.intro (of_decide_eq_true rfl : _ + _ ≤ (1000000 : Nat)) ?_; conv => whnf) | (refine And.intro (of_decide_eq_true rfl : _ < (1000000 : Nat)) ?_; conv => whnf) | (refine And.intro (rfl : Z.imm _ = true) ?_; conv => whnf) | (refine And.intro (rfl : Z.imms _ = true) ?_; conv => whnf) | (refine Exists.intro _ (And.intro (rfl : atI _ _ = some _) ?_); conv => whnf) | (refine zite_t (by decide) ?_; conv => whnf) | (refine zite_f (by decide) ?_; conv => whnf) | (refine zite_t rfl ?_; conv => whnf) | (refine zite_f rfl ?_; conv => whnf))
  refine ⟨_, rfl, spl.1, Nat.le_trans spl.2 (by decide), ?_⟩
  (conv => whnf); repeat (first | (refine And.intro (⟨by decide, by decide, by decide⟩ : CPow _ _) ?_; conv => whnf) | (refine And.intro (⟨by decide, by decide⟩ : CDiv _ _) ?_; conv => whnf) | (refine And.intro (Or.inr ⟨by decide, by decide⟩ : CMul _ _) ?_; conv => whnf) | (refine And.intro (by decide : Int.natAbs _ < (_ : Nat)) ?_; conv => whnf) | (refine And.intro (by decide : (_ : Int) ≤ _ ∧ _ < (2 : Int) ^ 62) ?_; conv => whnf) | (refine And.intro (by decide : (0 : Int) < _) ?_; conv => whnf) | (refine And.intro (rfl : List.length _ = _) ?_; conv => whnf) | (refine And.intro (vZs_imm _ : Z.imms _ = true) ?_; conv => whnf) | (refine And.intro (rfl : gw _ _ = _) ?_; conv => whnf) | (refine And.intro (of_decide_eq_true rfl : _ + _ ≤ (1000000 : Nat)) ?_; conv => whnf) | (refine And.intro (of_decide_eq_true rfl : _ < (1000000 : Nat)) ?_; conv => whnf) | (refine And.intro (rfl : Z.imm _ = true) ?_; conv => whnf) | (refine And.intro (rfl : Z.imms _ = true) ?_; conv => whnf) | (refine Exists.intro _ (And.intro (rfl : atI _ _ = some _) ?_); conv => whnf) | (refine zite_t (by decide) ?_; conv => whnf) | (refine zite_f (by decide) ?_; conv => whnf) | (refine zite_t rfl ?_; conv => whnf) | (refine zite_f rfl ?_; conv => whnf))
  refine LiP.map (xs := tss) (em := trackZ) (fun es => .int (es.length : Nat)) (by omega) (fun es he kt kf h => ?_) ?_
  · (conv => whnf); repeat (first | (refine And.intro (⟨by decide, by decide, by decide⟩ : CPow _ _) ?_; conv => whnf) | (refine And.intro (⟨by decide, by decide⟩ : CDiv _ _) ?_; conv => whnf) | (refine And.intro (Or.inr ⟨by decide, by decide⟩ : CMul _ _) ?_; conv => whnf) | (refine And.intro (by decide : Int.natAbs _ < (_ : Nat)) ?_; conv => whnf) | (refine And.intro (by decide : (_ : Int) ≤ _ ∧ _ < (2 : Int) ^ 62) ?_; conv => whnf) | (refine And.intro (by decide : (0 : Int) < _) ?_; conv => whnf) | (refine And.intro (rfl : List.length _ = _) ?_; conv => whnf) | (refine And.intro (vZs_imm _ : Z.imms _ = true) ?_; conv => whnf) | (refine And.intro (rfl : gw _ _ = _) ?_; conv => whnf) | (refine And.intro (of_decide_eq_true rfl : _ + _ ≤ (1000000 : Nat)) ?_; conv => whnf) | (refine And.intro (of_decide_eq_true rfl : _ < (1000000 : Nat)) ?_; conv => whnf) | (refine And.intro (rfl : Z.imm _ = true) ?_; conv => whnf) | (refine And.intro (rfl : Z.imms _ = true) ?_; conv => whnf) | (refine Exists.intro _ (And.intro (rfl : atI _ _ = some _) ?_); conv => whnf) | (refine zite_t (by decide) ?_; conv => whnf) | (refine zite_f (by decide) ?_; conv => whnf) | (refine zite_t rfl ?_; conv => whnf) | (refine zite_f rfl ?_; conv => whnf))
    rw [List.length_map]
    exact h
  conv => whnf
  refine ⟨tss.map fun es => (es.length : Int), congrArg (fun l => some (Z.lst l)) (by unfold intsZ; rw [List.map_map]; rfl), ?_⟩
  have sE := sum_len tss
  (conv => whnf); repeat (first | (refine And.intro (⟨by decide, by decide, by decide⟩ : CPow _ _) ?_; conv => whnf) | (refine And.intro (⟨by decide, by decide⟩ : CDiv _ _) ?_; conv => whnf) | (refine And.intro (Or.inr ⟨by decide, by decide⟩ : CMul _ _) ?_; conv => whnf) | (refine And.intro (by decide : Int.natAbs _ < (_ : Nat)) ?_; conv => whnf) | (refine And.intro (by decide : (_ : Int) ≤ _ ∧ _ < (2 : Int) ^ 62) ?_; conv => whnf) | (refine And.intro (by decide : (0 : Int) < _) ?_; conv => whnf) | (refine And.intro (rfl : List.length _ = _) ?_; conv => whnf) | (refine And.intro (vZs_imm _ : Z.imms _ = true) ?_; conv => whnf) | (refine And.intro (rfl : gw _ _ = _) ?_; conv => whnf) | (refine And.intro (of_decide_eq_true rfl : _ + _ ≤ (1000000 : Nat)) ?_; conv => whnf) | (refine And.intro (of_decide_eq_true rfl : _ < (1000000 : Nat)) ?_; conv => whnf) | (refine And.intro (rfl : Z.imm _ = true) ?_; conv => whnf) | (refine And.intro (rfl : Z.imms _ = true) ?_; conv => whnf) | (refine Exists.intro _ (And.intro (rfl : atI _ _ = some _) ?_); conv => whnf) | (refine zite_t (by decide) ?_; conv => whnf) | (refine zite_f (by decide) ?_; conv => whnf) | (refine zite_t rfl ?_; conv => whnf) | (refine zite_f rfl ?_; conv => whnf))
  refine zite_f (by rw [sE, List.length_map, mergeT_len]; simp) ?_
  (conv => whnf); repeat (first | (refine And.intro (⟨by decide, by decide, by decide⟩ : CPow _ _) ?_; conv => whnf) | (refine And.intro (⟨by decide, by decide⟩ : CDiv _ _) ?_; conv => whnf) | (refine And.intro (Or.inr ⟨by decide, by decide⟩ : CMul _ _) ?_; conv => whnf) | (refine And.intro (by decide : Int.natAbs _ < (_ : Nat)) ?_; conv => whnf) | (refine And.intro (by decide : (_ : Int) ≤ _ ∧ _ < (2 : Int) ^ 62) ?_; conv => whnf) | (refine And.intro (by decide : (0 : Int) < _) ?_; conv => whnf) | (refine And.intro (rfl : List.length _ = _) ?_; conv => whnf) | (refine And.intro (vZs_imm _ : Z.imms _ = true) ?_; conv => whnf) | (refine And.intro (rfl : gw _ _ = _) ?_; conv => whnf) | (refine And.intro (of_decide_eq_true rfl : _ + _ ≤ (1000000 : Nat)) ?_; conv => whnf) | (refine And.intro (of_decide_eq_true rfl : _ < (1000000 : Nat)) ?_; conv => whnf) | (refine And.intro (rfl : Z.imm _ = true) ?_; conv => whnf) | (refine And.intro (rfl : Z.imms _ = true) ?_; conv => whnf) | (refine Exists.intro _ (And.intro (rfl : atI _ _ = some _) ?_); conv => whnf) | (refine zite_t (by decide) ?_; conv => whnf) | (refine zite_f (by decide) ?_; conv => whnf) | (refine zite_t rfl ?_; conv => whnf) | (refine zite_f rfl ?_; conv => whnf))
  refine LiP.map (xs := mergeT tss) (em := rwE) (fun p => .int p.2.tick) (by omega) (fun p hp kt kf h => ?_) ?_
  · obtain ⟨n, e⟩ := p
    cases e with
    | _ =>
      (conv => whnf); repeat (first | (refine And.intro (⟨by decide, by decide, by decide⟩ : CPow _ _) ?_; conv => whnf) | (refine And.intro (⟨by decide, by decide⟩ : CDiv _ _) ?_; conv => whnf) | (refine And.intro (Or.inr ⟨by decide, by decide⟩ : CMul _ _) ?_; conv => whnf) | (refine And.intro (by decide : Int.natAbs _ < (_ : Nat)) ?_; conv => whnf) | (refine And.intro (by decide : (_ : Int) ≤ _ ∧ _ < (2 : Int) ^ 62) ?_; conv => whnf) | (refine And.intro (by decide : (0 : Int) < _) ?_; conv => whnf) | (refine And.intro (rfl : List.length _ = _) ?_; conv => whnf) | (refine And.intro (vZs_imm _ : Z.imms _ = true) ?_; conv => whnf) | (refine And.intro (rfl : gw _ _ = _) ?_; conv => whnf) | (refine And.intro (of_decide_eq_true rfl : _ + _ ≤ (1000000 : Nat)) ?_; conv => whnf) | (refine And.intro (of_decide_eq_true rfl : _ < (1000000 : Nat)) ?_; conv => whnf) | (refine And.intro (rfl : Z.imm _ = true) ?_; conv => whnf) | (refine And.intro (rfl : Z.imms _ = true) ?_; conv => whnf) | (refine Exists.intro _ (And.intro (rfl : atI _ _ = some _) ?_); conv => whnf) | (refine zite_t (by decide) ?_; conv => whnf) | (refine zite_f (by decide) ?_; conv => whnf) | (refine zite_t rfl ?_; conv => whnf) | (refine zite_f rfl ?_; conv => whnf))
      exact h
  (conv => whnf); repeat (first | (refine And.intro (⟨by decide, by decide, by decide⟩ : CPow _ _) ?_; conv => whnf) | (refine And.intro (⟨by decide, by decide⟩ : CDiv _ _) ?_; conv => whnf) | (refine And.intro (Or.inr ⟨by decide, by decide⟩ : CMul _ _) ?_; conv => whnf) | (refine And.intro (by decide : Int.natAbs _ < (_ : Nat)) ?_; conv => whnf) | (refine And.intro (by decide : (_ : Int) ≤ _ ∧ _ < (2 : Int) ^ 62) ?_; conv => whnf) | (refine And.intro (by decide : (0 : Int) < _) ?_; conv => whnf) | (refine And.intro (rfl : List.length _ = _) ?_; conv => whnf) | (refine And.intro (vZs_imm _ : Z.imms _ = true) ?_; conv => whnf) | (refine And.intro (rfl : gw _ _ = _) ?_; conv => whnf) | (refine And.intro (of_decide_eq_true rfl : _ + _ ≤ (1000000 : Nat)) ?_; conv => whnf) | (refine And.intro (of_decide_eq_true rfl : _ < (1000000 : Nat)) ?_; conv => whnf) | (refine And.intro (rfl : Z.imm _ = true) ?_; conv => whnf) | (refine And.intro (rfl : Z.imms _ = true) ?_; conv => whnf) | (refine Exists.intro _ (And.intro (rfl : atI _ _ = some _) ?_); conv => whnf) | (refine zite_t (by decide) ?_; conv => whnf) | (refine zite_f (by decide) ?_; conv => whnf) | (refine zite_t rfl ?_; conv => whnf) | (refine zite_f rfl ?_; conv => whnf))
  have e1 : ((mergeT tss).map fun p => Z.int p.2.tick) = intsZ ((mergeT tss).map fun p => p.2.tick) := by unfold intsZ; rw [List.map_map]; rfl
  rw [e1]
  have up := merge_up tss
  have npl := ints_pl (l := (mergeT tss).map fun p => p.2.tick) (by rw [List.length_map]; omega)
  refine ⟨_, rfl, fun m hmm hs => ?_⟩
  rw [sorted_same hmm hs up]
  (conv => whnf); repeat (first | (refine And.intro (⟨by decide, by decide, by decide⟩ : CPow _ _) ?_; conv => whnf) | (refine And.intro (⟨by decide, by decide⟩ : CDiv _ _) ?_; conv => whnf) | (refine And.intro (Or.inr ⟨by decide, by decide⟩ : CMul _ _) ?_; conv => whnf) | (refine And.intro (by decide : Int.natAbs _ < (_ : Nat)) ?_; conv => whnf) | (refine And.intro (by decide : (_ : Int) ≤ _ ∧ _ < (2 : Int) ^ 62) ?_; conv => whnf) | (refine And.intro (by decide : (0 : Int) < _) ?_; conv => whnf) | (refine And.intro (rfl : List.length _ = _) ?_; conv => whnf) | (refine And.intro (vZs_imm _ : Z.imms _ = true) ?_; conv => whnf) | (refine And.intro (rfl : gw _ _ = _) ?_; conv => whnf) | (refine And.intro (of_decide_eq_true rfl : _ + _ ≤ (1000000 : Nat)) ?_; conv => whnf) | (refine And.intro (of_decide_eq_true rfl : _ < (1000000 : Nat)) ?_; conv => whnf) | (refine And.intro (rfl : Z.imm _ = true) ?_; conv => whnf) | (refine And.intro (rfl : Z.imms _ = true) ?_; conv => whnf) | (refine Exists.intro _ (And.intro (rfl : atI _ _ = some _) ?_); conv => whnf) | (refine zite_t (by decide) ?_; conv => whnf) | (refine zite_f (by decide) ?_; conv => whnf) | (refine zite_t rfl ?_; conv => whnf) | (refine zite_f rfl ?_; conv => whnf))
  refine ⟨_, EqD.rfl npl.1 (Nat.le_trans npl.2 (by decide)), ?_⟩
  (conv => whnf); repeat (first | (refine And.intro (⟨by decide, by decide, by decide⟩ : CPow _ _) ?_; conv => whnf) | (refine And.intro (⟨by decide, by decide⟩ : CDiv _ _) ?_; conv => whnf) | (refine And.intro (Or.inr ⟨by decide, by decide⟩ : CMul _ _) ?_; conv => whnf) | (refine And.intro (by decide : Int.natAbs _ < (_ : Nat)) ?_; conv => whnf) | (refine And.intro (by decide : (_ : Int) ≤ _ ∧ _ < (2 : Int) ^ 62) ?_; conv => whnf) | (refine And.intro (by decide : (0 : Int) < _) ?_; conv => whnf) | (refine And.intro (rfl : List.length _ = _) ?_; conv => whnf) | (refine And.intro (vZs_imm _ : Z.imms _ = true) ?_; conv => whnf) | (refine And.intro (rfl : gw _ _ = _) ?_; conv => whnf) | (refine And.intro (of_decide_eq_true rfl : _ + _ ≤ (1000000 : Nat)) ?_; conv => whnf) | (refine And.intro (of_decide_eq_true rfl : _ < (1000000 : Nat)) ?_; conv => whnf) | (refine And.intro (rfl : Z.imm _ = true) ?_; conv => whnf) | (refine And.intro (rfl : Z.imms _ = true) ?_; conv => whnf) | (refine Exists.intro _ (And.intro (rfl : atI _ _ = some _) ?_); conv => whnf) | (refine zite_t (by decide) ?_; conv => whnf) | (refine zite_f (by decide) ?_; conv => whnf) | (refine zite_t rfl ?_; conv => whnf) | (refine zite_f rfl ?_; conv => whnf))
  refine ⟨mergeT tss, tss.length + 2, by rw [le]; rfl, by omega, by omega, fun p hp => by have := mergeT_mem hp; omega, ?_⟩
  rw [part_more ris]
  have rpl := rws_pl (tss := tss) (fun es h => (to es h).1.ok) (by omega)
  (conv => whnf); repeat (first | (refine And.intro (⟨by decide, by decide, by decide⟩ : CPow _ _) ?_; conv => whnf) | (refine And.intro (⟨by decide, by decide⟩ : CDiv _ _) ?_; conv => whnf) | (refine And.intro (Or.inr ⟨by decide, by decide⟩ : CMul _ _) ?_; conv => whnf) | (refine And.intro (by decide : Int.natAbs _ < (_ : Nat)) ?_; conv => whnf) | (refine And.intro (by decide : (_ : Int) ≤ _ ∧ _ < (2 : Int) ^ 62) ?_; conv => whnf) | (refine And.intro (by decide : (0 : Int) < _) ?_; conv => whnf) | (refine And.intro (rfl : List.length _ = _) ?_; conv => whnf) | (refine And.intro (vZs_imm _ : Z.imms _ = true) ?_; conv => whnf) | (refine And.intro (rfl : gw _ _ = _) ?_; conv => whnf) | (refine And.intro (of_decide_eq_true rfl : _ + _ ≤ (1000000 : Nat)) ?_; conv => whnf) | (refine And.intro (of_decide_eq_true rfl : _ < (1000000 : Nat)) ?_; conv => whnf) | (refine And.intro (rfl : Z.imm _ = true) ?_; conv => whnf) | (refine And.intro (rfl : Z.imms _ = true) ?_; conv => whnf) | (refine Exists.intro _ (And.intro (rfl : atI _ _ = some _) ?_); conv => whnf) | (refine zite_t (by decide) ?_; conv => whnf) | (refine zite_f (by decide) ?_; conv => whnf) | (refine zite_t rfl ?_; conv => whnf) | (refine zite_f rfl ?_; conv => whnf))
  rw [cut_two]
  refine ⟨_, EqD.rfl (z := .lst [.lst [], .lst []]) (by decide +kernel) (by decide +kernel), ?_⟩
  (conv => whnf); repeat (first | (refine And.intro (⟨by decide, by decide, by decide⟩ : CPow _ _) ?_; conv => whnf) | (refine And.intro (⟨by decide, by decide⟩ : CDiv _ _) ?_; conv => whnf) | (refine And.intro (Or.inr ⟨by decide, by decide⟩ : CMul _ _) ?_; conv => whnf) | (refine And.intro (by decide : Int.natAbs _ < (_ : Nat)) ?_; conv => whnf) | (refine And.intro (by decide : (_ : Int) ≤ _ ∧ _ < (2 : Int) ^ 62) ?_; conv => whnf) | (refine And.intro (by decide : (0 : Int) < _) ?_; conv => whnf) | (refine And.intro (rfl : List.length _ = _) ?_; conv => whnf) | (refine And.intro (vZs_imm _ : Z.imms _ = true) ?_; conv => whnf) | (refine And.intro (rfl : gw _ _ = _) ?_; conv => whnf) | (refine And.intro (of_decide_eq_true rfl : _ + _ ≤ (1000000 : Nat)) ?_; conv => whnf) | (refine And.intro (of_decide_eq_true rfl : _ < (1000000 : Nat)) ?_; conv => whnf) | (refine And.intro (rfl : Z.imm _ = true) ?_; conv => whnf) | (refine And.intro (rfl : Z.imms _ = true) ?_; conv => whnf) | (refine Exists.intro _ (And.intro (rfl : atI _ _ = some _) ?_); conv => whnf) | (refine zite_t (by decide) ?_; conv => whnf) | (refine zite_f (by decide) ?_; conv => whnf) | (refine zite_t rfl ?_; conv => whnf) | (refine zite_f rfl ?_; conv => whnf))
  refine ⟨tss ++ [[], []], rfl, by rw [List.length_append]; show tss.length + 2 ≤ 100; omega, fun es h => by
    rcases List.mem_append.mp h with h | h
    · exact hm es h
    · rcases List.mem_cons.mp h with rfl | h
      · exact Nat.zero_le _
      · rw [List.mem_singleton.mp h]; exact Nat.zero_le _, ?_⟩
  rw [merge_more]
  (conv => whnf); repeat (first | (refine And.intro (⟨by decide, by decide, by decide⟩ : CPow _ _) ?_; conv => whnf) | (refine And.intro (⟨by decide, by decide⟩ : CDiv _ _) ?_; conv => whnf) | (refine And.intro (Or.inr ⟨by decide, by decide⟩ : CMul _ _) ?_; conv => whnf) | (refine And.intro (by decide : Int.natAbs _ < (_ : Nat)) ?_; conv => whnf) | (refine And.intro (by decide : (_ : Int) ≤ _ ∧ _ < (2 : Int) ^ 62) ?_; conv => whnf) | (refine And.intro (by decide : (0 : Int) < _) ?_; conv => whnf) | (refine And.intro (rfl : List.length _ = _) ?_; conv => whnf) | (refine And.intro (vZs_imm _ : Z.imms _ = true) ?_; conv => whnf) | (refine And.intro (rfl : gw _ _ = _) ?_; conv => whnf) | (refine And.intro (of_decide_eq_true rfl : _ + _ ≤ (1000000 : Nat)) ?_; conv => whnf) | (refine And.intro (of_decide_eq_true rfl : _ < (1000000 : Nat)) ?_; conv => whnf) | (refine And.intro (rfl : Z.imm _ = true) ?_; conv => whnf) | (refine And.intro (rfl : Z.imms _ = true) ?_; conv => whnf) | (refine Exists.intro _ (And.intro (rfl : atI _ _ = some _) ?_); conv => whnf) | (refine zite_t (by decide) ?_; conv => whnf) | (refine zite_f (by decide) ?_; conv => whnf) | (refine zite_t rfl ?_; conv => whnf) | (refine zite_f rfl ?_; conv => whnf))
  refine ⟨_, EqD.rfl rpl.1 (Nat.le_trans rpl.2 (by decide)), ?_⟩
  (conv => whnf); repeat (first | (refine And.intro (⟨by decide, by decide, by decide⟩ : CPow _ _) ?_; conv => whnf) | (refine And.intro (⟨by decide, by decide⟩ : CDiv _ _) ?_; conv => whnf) | (refine And.intro (Or.inr ⟨by decide, by decide⟩ : CMul _ _) ?_; conv => whnf) | (refine And.intro (by decide : Int.natAbs _ < (_ : Nat)) ?_; conv => whnf) | (refine And.intro (by decide : (_ : Int) ≤ _ ∧ _ < (2 : Int) ^ 62) ?_; conv => whnf) | (refine And.intro (by decide : (0 : Int) < _) ?_; conv => whnf) | (refine And.intro (rfl : List.length _ = _) ?_; conv => whnf) | (refine And.intro (vZs_imm _ : Z.imms _ = true) ?_; conv => whnf) | (refine And.intro (rfl : gw _ _ = _) ?_; conv => whnf) | (refine And.intro (of_decide_eq_true rfl : _ + _ ≤ (1000000 : Nat)) ?_; conv => whnf) | (refine And.intro (of_decide_eq_true rfl : _ < (1000000 : Nat)) ?_; conv => whnf) | (refine And.intro (rfl : Z.imm _ = true) ?_; conv => whnf) | (refine And.intro (rfl : Z.imms _ = true) ?_; conv => whnf) | (refine Exists.intro _ (And.intro (rfl : atI _ _ = some _) ?_); conv => whnf) | (refine zite_t (by decide) ?_; conv => whnf) | (refine zite_f (by decide) ?_; conv => whnf) | (refine zite_t rfl ?_; conv => whnf) | (refine zite_f rfl ?_; conv => whnf))
  clear tl le spl rpl npl e1 up hmm hs sE ml rl
  cases tss with
  | nil => exact absurd tl1.1 (by decide)
  | cons t rest =>
    rw [cut_one]
    have o1 := merge_one (ris t (.head _))
    have rpl := rws_pl (tss := [t]) (fun es h => by rw [List.mem_singleton.mp h]; exact (to t (.head _)).1.ok) (by rw [o1, List.length_map]; have := (to t (.head _)).2; omega)
    rw [o1, List.map_map] at rpl
    refine ⟨[t], rfl, by show 1 ≤ 100; decide, fun es h => by rw [List.mem_singleton.mp h]; exact hm t (.head _), ?_⟩
    rw [o1, List.map_map]
    (conv => whnf); repeat (first | (refine And.intro (⟨by decide, by decide, by decide⟩ : CPow _ _) ?_; conv => whnf) | (refine And.intro (⟨by decide, by decide⟩ : CDiv _ _) ?_; conv => whnf) | (refine And.intro (Or.inr ⟨by decide, by decide⟩ : CMul _ _) ?_; conv => whnf) | (refine And.intro (by decide : Int.natAbs _ < (_ : Nat)) ?_; conv => whnf) | (refine And.intro (by decide : (_ : Int) ≤ _ ∧ _ < (2 : Int) ^ 62) ?_; conv => whnf) | (refine And.intro (by decide : (0 : Int) < _) ?_; conv => whnf) | (refine And.intro (rfl : List.length _ = _) ?_; conv => whnf) | (refine And.intro (vZs_imm _ : Z.imms _ = true) ?_; conv => whnf) | (refine And.intro (rfl : gw _ _ = _) ?_; conv => whnf) | (refine And.intro (of_decide_eq_true rfl : _ + _ ≤ (1000000 : Nat)) ?_; conv => whnf) | (refine And.intro (of_decide_eq_true rfl : _ < (1000000 : Nat)) ?_; conv => whnf) | (refine And.intro (rfl : Z.imm _ = true) ?_; conv => whnf) | (refine And.intro (rfl : Z.imms _ = true) ?_; conv => whnf) | (refine Exists.intro _ (And.intro (rfl : atI _ _ = some _) ?_); conv => whnf) | (refine zite_t (by decide) ?_; conv => whnf) | (refine zite_f (by decide) ?_; conv => whnf) | (refine zite_t rfl ?_; conv => whnf) | (refine zite_f rfl ?_; conv => whnf))
    refine ⟨trackZ t, at_n (j := 0) rfl rfl, ?_⟩
    (conv => whnf); repeat (first | (refine And.intro (⟨by decide, by decide, by decide⟩ : CPow _ _) ?_; conv => whnf) | (refine And.intro (⟨by decide, by decide⟩ : CDiv _ _) ?_; conv => whnf) | (refine And.intro (Or.inr ⟨by decide, by decide⟩ : CMul _ _) ?_; conv => whnf) | (refine And.intro (by decide : Int.natAbs _ < (_ : Nat)) ?_; conv => whnf) | (refine And.intro (by decide : (_ : Int) ≤ _ ∧ _ < (2 : Int) ^ 62) ?_; conv => whnf) | (refine And.intro (by decide : (0 : Int) < _) ?_; conv => whnf) | (refine And.intro (rfl : List.length _ = _) ?_; conv => whnf) | (refine And.intro (vZs_imm _ : Z.imms _ = true) ?_; conv => whnf) | (refine And.intro (rfl : gw _ _ = _) ?_; conv => whnf) | (refine And.intro (of_decide_eq_true rfl : _ + _ ≤ (1000000 : Nat)) ?_; conv => whnf) | (refine And.intro (of_decide_eq_true rfl : _ < (1000000 : Nat)) ?_; conv => whnf) | (refine And.intro (rfl : Z.imm _ = true) ?_; conv => whnf) | (refine And.intro (rfl : Z.imms _ = true) ?_; conv => whnf) | (refine Exists.intro _ (And.intro (rfl : atI _ _ = some _) ?_); conv => whnf) | (refine zite_t (by decide) ?_; conv => whnf) | (refine zite_f (by decide) ?_; conv => whnf) | (refine zite_t rfl ?_; conv => whnf) | (refine zite_f rfl ?_; conv => whnf))
    refine LiP.map (xs := t) (em := evZ) (fun e => rwE (0, e)) (by have := (to t (.head _)).2; omega) (fun e he kt kf h => ?_) ?_
    · (conv => whnf); repeat (first | (refine And.intro (⟨by decide, by decide, by decide⟩ : CPow _ _) ?_; conv => whnf) | (refine And.intro (⟨by decide, by decide⟩ : CDiv _ _) ?_; conv => whnf) | (refine And.intro (Or.inr ⟨by decide, by decide⟩ : CMul _ _) ?_; conv => whnf) | (refine And.intro (by decide : Int.natAbs _ < (_ : Nat)) ?_; conv => whnf) | (refine And.intro (by decide : (_ : Int) ≤ _ ∧ _ < (2 : Int) ^ 62) ?_; conv => whnf) | (refine And.intro (by decide : (0 : Int) < _) ?_; conv => whnf) | (refine And.intro (rfl : List.length _ = _) ?_; conv => whnf) | (refine And.intro (vZs_imm _ : Z.imms _ = true) ?_; conv => whnf) | (refine And.intro (rfl : gw _ _ = _) ?_; conv => whnf) | (refine And.intro (of_decide_eq_true rfl : _ + _ ≤ (1000000 : Nat)) ?_; conv => whnf) | (refine And.intro (of_decide_eq_true rfl : _ < (1000000 : Nat)) ?_; conv => whnf) | (refine And.intro (rfl : Z.imm _ = true) ?_; conv => whnf) | (refine And.intro (rfl : Z.imms _ = true) ?_; conv => whnf) | (refine Exists.intro _ (And.intro (rfl : atI _ _ = some _) ?_); conv => whnf) | (refine zite_t (by decide) ?_; conv => whnf) | (refine zite_f (by decide) ?_; conv => whnf) | (refine zite_t rfl ?_; conv => whnf) | (refine zite_f rfl ?_; conv => whnf))
      exact h
    (conv => whnf); repeat (first | (refine And.intro (⟨by decide, by decide, by decide⟩ : CPow _ _) ?_; conv => whnf) | (refine And.intro (⟨by decide, by decide⟩ : CDiv _ _) ?_; conv => whnf) | (refine And.intro (Or.inr ⟨by decide, by decide⟩ : CMul _ _) ?_; conv => whnf) | (refine And.intro (by decide : Int.natAbs _ < (_ : Nat)) ?_; conv => whnf) | (refine And.intro (by decide : (_ : Int) ≤ _ ∧ _ < (2 : Int) ^ 62) ?_; conv => whnf) | (refine And.intro (by decide : (0 : Int) < _) ?_; conv => whnf) | (refine And.intro (rfl : List.length _ = _) ?_; conv => whnf) | (refine And.intro (vZs_imm _ : Z.imms _ = true) ?_; conv => whnf) | (refine And.intro (rfl : gw _ _ = _) ?_; conv => whnf) | (refine And.intro (of_decide_eq_true rfl : _ + _ ≤ (1000000 : Nat)) ?_; conv => whnf) | (refine And.intro (of_decide_eq_true rfl : _ < (1000000 : Nat)) ?_; conv => whnf) | (refine And.intro (rfl : Z.imm _ = true) ?_; conv => whnf) | (refine And.intro (rfl : Z.imms _ = true) ?_; conv => whnf) | (refine Exists.intro _ (And.intro (rfl : atI _ _ = some _) ?_); conv => whnf) | (refine zite_t (by decide) ?_; conv => whnf) | (refine zite_f (by decide) ?_; conv => whnf) | (refine zite_t rfl ?_; conv => whnf) | (refine zite_f rfl ?_; conv => whnf))
    refine ⟨_, EqD.rfl rpl.1 (Nat.le_trans rpl.2 (by decide)), ?_⟩
    (conv => whnf); repeat (first | (refine And.intro (⟨by decide, by decide, by decide⟩ : CPow _ _) ?_; conv => whnf) | (refine And.intro (⟨by decide, by decide⟩ : CDiv _ _) ?_; conv => whnf) | (refine And.intro (Or.inr ⟨by decide, by decide⟩ : CMul _ _) ?_; conv => whnf) | (refine And.intro (by decide : Int.natAbs _ < (_ : Nat)) ?_; conv => whnf) | (refine And.intro (by decide : (_ : Int) ≤ _ ∧ _ < (2 : Int) ^ 62) ?_; conv => whnf) | (refine And.intro (by decide : (0 : Int) < _) ?_; conv => whnf) | (refine And.intro (rfl : List.length _ = _) ?_; conv => whnf) | (refine And.intro (vZs_imm _ : Z.imms _ = true) ?_; conv => whnf) | (refine And.intro (rfl : gw _ _ = _) ?_; conv => whnf) | (refine And.intro (of_decide_eq_true rfl : _ + _ ≤ (1000000 : Nat)) ?_; conv => whnf) | (refine And.intro (of_decide_eq_true rfl : _ < (1000000 : Nat)) ?_; conv => whnf) | (refine And.intro (rfl : Z.imm _ = true) ?_; conv => whnf) | (refine And.intro (rfl : Z.imms _ = true) ?_; conv => whnf) | (refine Exists.intro _ (And.intro (rfl : atI _ _ = some _) ?_); conv => whnf) | (refine zite_t (by decide) ?_; conv => whnf) | (refine zite_f (by decide) ?_; conv => whnf) | (refine zite_t rfl ?_; conv => whnf) | (refine zite_f rfl ?_; conv => whnf))
    rfl
end
end Rt

namespace Rt
open PySem PySem.Spec PyProof.Rows L2 RZ TL LamX
section
variable {P : Program} {w : World} {K : PySem.W.Frag} {mg : Str → Option Value} {base : Heap}
end
theorem all_mk {l : PySem.W.OpenLaw} {w : World} {K : PySem.W.Frag} {h : Heap} {mg : Str → Option Value} {fa : Addr} (X : K.In h) (G : h.Ns mainGlobals mg) (hfa : mg "law" = some (.ref fa))
    {f1 : Addr} {od1 an1 : Option Addr} {sl1 : Array (Option Value)} {oc1 kV1 dc1 pm1 cd1 ct1 : Value}
    (a1 : PySem.W.nsIn K mainGlobals "_law_begin" = some (some (.ref f1)))
    (l1 : K.lookup f1 = some ⟨oc1, od1, .func (PySem.W.fnOf "_law_begin" "_law_begin" (defArgs s_begin) (defBody s_begin) (defScope s_begin) .none kV1 dc1 pm1 an1 cd1 ct1), sl1⟩)
    (c1 : PySem.W.codeIn K cd1 "_law_begin" = true) (k1 : PySem.W.keepIn K (.ref f1) = true)
    {f2 : Addr} {od2 an2 : Option Addr} {sl2 : Array (Option Value)} {oc2 kV2 dc2 pm2 cd2 ct2 : Value}
    (a2 : PySem.W.nsIn K mainGlobals "_law_pick" = some (some (.ref f2)))
    (l2 : K.lookup f2 = some ⟨oc2, od2, .func (PySem.W.fnOf "_law_pick" "_law_pick" (defArgs s_pick) (defBody s_pick) (defScope s_pick) .none kV2 dc2 pm2 an2 cd2 ct2), sl2⟩)
    (c2 : PySem.W.codeIn K cd2 "_law_pick" = true) (k2 : PySem.W.keepIn K (.ref f2) = true)
    {f3 : Addr} {od3 an3 : Option Addr} {sl3 : Array (Option Value)} {oc3 kV3 dc3 pm3 cd3 ct3 : Value}
    (a3 : PySem.W.nsIn K mainGlobals "_law_gap_of" = some (some (.ref f3)))
    (l3 : K.lookup f3 = some ⟨oc3, od3, .func (PySem.W.fnOf "_law_gap_of" "_law_gap_of" (defArgs s_gap_of) (defBody s_gap_of) (defScope s_gap_of) .none kV3 dc3 pm3 an3 cd3 ct3), sl3⟩)
    (c3 : PySem.W.codeIn K cd3 "_law_gap_of" = true) (k3 : PySem.W.keepIn K (.ref f3) = true)
    {f4 : Addr} {od4 an4 : Option Addr} {sl4 : Array (Option Value)} {oc4 kV4 dc4 pm4 cd4 ct4 : Value}
    (a4 : PySem.W.nsIn K mainGlobals "_law_channel" = some (some (.ref f4)))
    (l4 : K.lookup f4 = some ⟨oc4, od4, .func (PySem.W.fnOf "_law_channel" "_law_channel" (defArgs s_channel) (defBody s_channel) (defScope s_channel) .none kV4 dc4 pm4 an4 cd4 ct4), sl4⟩)
    (c4 : PySem.W.codeIn K cd4 "_law_channel" = true) (k4 : PySem.W.keepIn K (.ref f4) = true)
    {f5 : Addr} {od5 an5 : Option Addr} {sl5 : Array (Option Value)} {oc5 kV5 dc5 pm5 cd5 ct5 : Value}
    (a5 : PySem.W.nsIn K mainGlobals "_law_key" = some (some (.ref f5)))
    (l5 : K.lookup f5 = some ⟨oc5, od5, .func (PySem.W.fnOf "_law_key" "_law_key" (defArgs s_key) (defBody s_key) (defScope s_key) .none kV5 dc5 pm5 an5 cd5 ct5), sl5⟩)
    (c5 : PySem.W.codeIn K cd5 "_law_key" = true) (k5 : PySem.W.keepIn K (.ref f5) = true)
    {f6 : Addr} {od6 an6 : Option Addr} {sl6 : Array (Option Value)} {oc6 kV6 dc6 pm6 cd6 ct6 : Value}
    (a6 : PySem.W.nsIn K mainGlobals "_law_word" = some (some (.ref f6)))
    (l6 : K.lookup f6 = some ⟨oc6, od6, .func (PySem.W.fnOf "_law_word" "_law_word" (defArgs s_word) (defBody s_word) (defScope s_word) .none kV6 dc6 pm6 an6 cd6 ct6), sl6⟩)
    (c6 : PySem.W.codeIn K cd6 "_law_word" = true) (k6 : PySem.W.keepIn K (.ref f6) = true)
    {f7 : Addr} {od7 an7 : Option Addr} {sl7 : Array (Option Value)} {oc7 kV7 dc7 pm7 cd7 ct7 : Value}
    (a7 : PySem.W.nsIn K mainGlobals "_law_thing" = some (some (.ref f7)))
    (l7 : K.lookup f7 = some ⟨oc7, od7, .func (PySem.W.fnOf "_law_thing" "_law_thing" (defArgs s_thing) (defBody s_thing) (defScope s_thing) .none kV7 dc7 pm7 an7 cd7 ct7), sl7⟩)
    (c7 : PySem.W.codeIn K cd7 "_law_thing" = true) (k7 : PySem.W.keepIn K (.ref f7) = true)
    {f8 : Addr} {od8 an8 : Option Addr} {sl8 : Array (Option Value)} {oc8 kV8 dc8 pm8 cd8 ct8 : Value}
    (a8 : PySem.W.nsIn K mainGlobals "_law_track" = some (some (.ref f8)))
    (l8 : K.lookup f8 = some ⟨oc8, od8, .func (PySem.W.fnOf "_law_track" "_law_track" (defArgs s_track) (defBody s_track) (defScope s_track) .none kV8 dc8 pm8 an8 cd8 ct8), sl8⟩)
    (c8 : PySem.W.codeIn K cd8 "_law_track" = true) (k8 : PySem.W.keepIn K (.ref f8) = true)
    {f9 : Addr} {od9 an9 : Option Addr} {sl9 : Array (Option Value)} {oc9 kV9 dc9 pm9 cd9 ct9 : Value}
    (a9 : PySem.W.nsIn K mainGlobals "_law_same" = some (some (.ref f9)))
    (l9 : K.lookup f9 = some ⟨oc9, od9, .func (PySem.W.fnOf "_law_same" "_law_same" (defArgs s_same) (defBody s_same) (defScope s_same) .none kV9 dc9 pm9 an9 cd9 ct9), sl9⟩)
    (c9 : PySem.W.codeIn K cd9 "_law_same" = true) (k9 : PySem.W.keepIn K (.ref f9) = true)
    {f10 : Addr} {od10 an10 : Option Addr} {sl10 : Array (Option Value)} {oc10 kV10 dc10 pm10  ct10 : Value}
    {cc10 tb10 : Addr} {ox10 : Value} {dx10 : Option Addr} {vx10 : Array Value} {sx10 : Array (Option Value)}
    (a10 : PySem.W.nsIn K mainGlobals "merged" = some (some (.ref f10)))
    (l10 : K.lookup f10 = some ⟨oc10, od10, .func (PySem.W.fnOf "merged" "merged" (defArgs s_merged) (defBody s_merged) (defScope s_merged) .none kV10 dc10 pm10 an10 (.ref cc10) ct10), sl10⟩)
    (c10 : PySem.W.codeIn K (.ref cc10) "merged" = true) (k10 : PySem.W.keepIn K (.ref f10) = true)
    (lx10 : K.lookup cc10 = some ⟨ox10, dx10, .fields vx10, sx10⟩) (vt10 : vx10[11]? = some (.ref tb10)) (nt10 : K.lookup tb10 = none)
    (tl10 : PySem.W.CodeHd h cc10 tb10 ∧ h.get? tb10 = some { cls := .none, data := .fields #[] })
    {f11 : Addr} {od11 an11 : Option Addr} {sl11 : Array (Option Value)} {oc11 kV11 dc11 pm11 cd11 ct11 : Value}
    (a11 : PySem.W.nsIn K mainGlobals "need_number" = some (some (.ref f11)))
    (l11 : K.lookup f11 = some ⟨oc11, od11, .func (PySem.W.fnOf "need_number" "need_number" (defArgs s_need_number0) (defBody s_need_number0) (defScope s_need_number0) .none kV11 dc11 pm11 an11 cd11 ct11), sl11⟩)
    (c11 : PySem.W.codeIn K cd11 "need_number" = true) (k11 : PySem.W.keepIn K (.ref f11) = true)
    {f12 : Addr} {od12 an12 : Option Addr} {sl12 : Array (Option Value)} {oc12 kV12 dc12 pm12 cd12 ct12 : Value}
    (a12 : PySem.W.nsIn K mainGlobals "parted" = some (some (.ref f12)))
    (l12 : K.lookup f12 = some ⟨oc12, od12, .func (PySem.W.fnOf "parted" "parted" (defArgs s_parted0) (defBody s_parted0) (defScope s_parted0) .none kV12 dc12 pm12 an12 cd12 ct12), sl12⟩)
    (c12 : PySem.W.codeIn K cd12 "parted" = true) (k12 : PySem.W.keepIn K (.ref f12) = true)
    {f13 : Addr} {od13 an13 : Option Addr} {sl13 : Array (Option Value)} {oc13 kV13 dc13 pm13 cd13 ct13 : Value}
    (a13 : PySem.W.nsIn K mainGlobals "law" = some (some (.ref f13)))
    (l13 : K.lookup f13 = some ⟨oc13, od13, .func (PySem.W.fnOf "law" "law" (defArgs s_law_k41) (defBody s_law_k41) (defScope s_law_k41) .none kV13 dc13 pm13 an13 cd13 ct13), sl13⟩)
    (c13 : PySem.W.codeIn K cd13 "law" = true) (k13 : PySem.W.keepIn K (.ref f13) = true)
    (z_list : PySem.W.nsIn K mainGlobals "list" = some none)
    (z_len : PySem.W.nsIn K mainGlobals "len" = some none)
    (z_range : PySem.W.nsIn K mainGlobals "range" = some none)
    (z_isinstance : PySem.W.nsIn K mainGlobals "isinstance" = some none)
    (z_bool : PySem.W.nsIn K mainGlobals "bool" = some none)
    (z_int : PySem.W.nsIn K mainGlobals "int" = some none)
    (z_str : PySem.W.nsIn K mainGlobals "str" = some none)
    (z_tuple : PySem.W.nsIn K mainGlobals "tuple" = some none)
    (z_all : PySem.W.nsIn K mainGlobals "all" = some none)
    (z_sorted : PySem.W.nsIn K mainGlobals "sorted" = some none)
    (z_enumerate : PySem.W.nsIn K mainGlobals "enumerate" = some none)
    (z_sum : PySem.W.nsIn K mainGlobals "sum" = some none)
    (z_min : PySem.W.nsIn K mainGlobals "min" = some none)
    : LamX.LawAtS l w K CX0 7 63 "_law_script" mg fa h := by
  have e := hfa.symm.trans (PySem.W.mg_of X G a13)
  cases e
  letI : TabsT := ⟨[(tb10, lamQ)]⟩
  have m_list := PySem.W.mg_none_of X G z_list
  have m_len := PySem.W.mg_none_of X G z_len
  have m_range := PySem.W.mg_none_of X G z_range
  have m_isinstance := PySem.W.mg_none_of X G z_isinstance
  have m_bool := PySem.W.mg_none_of X G z_bool
  have m_int := PySem.W.mg_none_of X G z_int
  have m_str := PySem.W.mg_none_of X G z_str
  have m_tuple := PySem.W.mg_none_of X G z_tuple
  have m_all := PySem.W.mg_none_of X G z_all
  have m_sorted := PySem.W.mg_none_of X G z_sorted
  have m_enumerate := PySem.W.mg_none_of X G z_enumerate
  have m_sum := PySem.W.mg_none_of X G z_sum
  have m_min := PySem.W.mg_none_of X G z_min
  have F1 := fun_mk (st := s_begin) l1 c1 k1
  have g1 := PySem.W.mg_of X G a1
  have b1 := F1.binds (ps := ["_law_script"]) fun _ _ _ _ _ _ us hl => match us, hl with | [_], _ => rfl
  have F2 := fun_mk (st := s_pick) l2 c2 k2
  have g2 := PySem.W.mg_of X G a2
  have b2 := F2.binds (ps := ["_law_draw", "_law_many"]) fun _ _ _ _ _ _ us hl => match us, hl with | [_, _], _ => rfl
  have F3 := fun_mk (st := s_gap_of) l3 c3 k3
  have g3 := PySem.W.mg_of X G a3
  have b3 := F3.binds (ps := ["_law_draw"]) fun _ _ _ _ _ _ us hl => match us, hl with | [_], _ => rfl
  have F4 := fun_mk (st := s_channel) l4 c4 k4
  have g4 := PySem.W.mg_of X G a4
  have b4 := F4.binds (ps := ["_law_draw"]) fun _ _ _ _ _ _ us hl => match us, hl with | [_], _ => rfl
  have F5 := fun_mk (st := s_key) l5 c5 k5
  have g5 := PySem.W.mg_of X G a5
  have b5 := F5.binds (ps := ["_law_draw"]) fun _ _ _ _ _ _ us hl => match us, hl with | [_], _ => rfl
  have F6 := fun_mk (st := s_word) l6 c6 k6
  have g6 := PySem.W.mg_of X G a6
  have b6 := F6.binds (ps := ["_law_draw", "_law_most"]) fun _ _ _ _ _ _ us hl => match us, hl with | [_, _], _ => rfl
  have F7 := fun_mk (st := s_thing) l7 c7 k7
  have g7 := PySem.W.mg_of X G a7
  have b7 := F7.binds (ps := ["_law_draw"]) fun _ _ _ _ _ _ us hl => match us, hl with | [_], _ => rfl
  have F8 := fun_mk (st := s_track) l8 c8 k8
  have g8 := PySem.W.mg_of X G a8
  have b8 := F8.binds (ps := ["_law_draw", "_law_most"]) fun _ _ _ _ _ _ us hl => match us, hl with | [_, _], _ => rfl
  have F9 := fun_mk (st := s_same) l9 c9 k9
  have g9 := PySem.W.mg_of X G a9
  have b9 := F9.binds (ps := ["_law_found", "_law_due"]) fun _ _ _ _ _ _ us hl => match us, hl with | [_, _], _ => rfl
  have F10 := fun_mk (st := s_merged) l10 c10 k10
  have g10 := PySem.W.mg_of X G a10
  have b10 := F10.binds (ps := ["tracks"]) fun _ _ _ _ _ _ us hl => match us, hl with | [_], _ => rfl
  have F11 := fun_mk (st := s_need_number0) l11 c11 k11
  have g11 := PySem.W.mg_of X G a11
  have b11 := F11.binds (ps := ["number", "many"]) fun _ _ _ _ _ _ us hl => match us, hl with | [_, _], _ => rfl
  have F12 := fun_mk (st := s_parted0) l12 c12 k12
  have g12 := PySem.W.mg_of X G a12
  have b12 := F12.binds (ps := ["rows", "many"]) fun _ _ _ _ _ _ us hl => match us, hl with | [_, _], _ => rfl
  have F13 := fun_mk (st := s_law_k41) l13 c13 k13
  have g13 := PySem.W.mg_of X G a13
  refine ⟨PySem.W.fnOf "law" "law" (defArgs s_law_k41) (defBody s_law_k41) (defScope s_law_k41) .none kV13 dc13 pm13 an13 cd13 ct13, [(cc10, tb10)], spLawT K, List.forall_mem_cons.mpr ⟨tl10.2, (fun _ h => nomatch h)⟩, List.forall_mem_cons.mpr ⟨nt10, (fun _ h => nomatch h)⟩, List.forall_mem_cons.mpr ⟨tl10.1, (fun _ h => nomatch h)⟩, fun s v => .of_eq rfl, fun H a ns hl hbits hT hS => ?hsp, fun base Kb Gb TB => ?_⟩
  case hsp =>
    exact ⟨a, ns, rfl, hS, List.forall_mem_cons.mpr ⟨LamX.TabS.nil (hT (cc10, tb10) (by simp)), (fun _ h => nomatch h)⟩, fun _ => rfl⟩
  have TB10 : LamX.TabB base mg cc10 tb10 := TB (cc10, tb10) (by simp)
  have mT10 : (tb10, lamQ) ∈ TabsT.T := by show _ ∈ [(tb10, lamQ)]; simp
  have uT10 : ∀ p ∈ TabsT.T, p.1 = tb10 → p.2 = lamQ := List.forall_mem_cons.mpr ⟨fun _ => rfl, (fun _ h => nomatch h)⟩
  have D__law_begin : Def l.prog w K mg base "_law_begin" 1 (spBegin K) := ⟨_, _, _, _, g1, ok_begin (P := l.prog) (w := w) (base := base) F1 m_list, k1, b1, .nil⟩
  have D__law_pick : Def l.prog w K mg base "_law_pick" 1 spPick := ⟨_, _, _, _, g2, ok_pick (P := l.prog) (w := w) (base := base) F2 m_len, k2, b2, .nil⟩
  have Z__law_pick := pick_z D__law_pick
  have D__law_gap_of : Def l.prog w K mg base "_law_gap_of" 2 (spInts 0 999999) := ⟨_, _, _, _, g3, ok_gap_of (P := l.prog) (w := w) (base := base) F3 D__law_pick, k3, b3, .nil⟩
  have Z__law_gap_of := ints_z D__law_gap_of
  have D__law_channel : Def l.prog w K mg base "_law_channel" 2 (spInts 0 15) := ⟨_, _, _, _, g4, ok_channel (P := l.prog) (w := w) (base := base) F4 D__law_pick, k4, b4, .nil⟩
  have Z__law_channel := ints_z D__law_channel
  have D__law_key : Def l.prog w K mg base "_law_key" 2 (spInts 0 127) := ⟨_, _, _, _, g5, ok_key (P := l.prog) (w := w) (base := base) F5 D__law_pick, k5, b5, .nil⟩
  have Z__law_key := ints_z D__law_key
  have D__law_word : Def l.prog w K mg base "_law_word" 2 spWord := ⟨_, _, _, _, g6, ok_word (P := l.prog) (w := w) (base := base) F6 D__law_pick m_range, k6, b6, .nil⟩
  have D__law_thing : Def l.prog w K mg base "_law_thing" 3 spThing := ⟨_, _, _, _, g7, ok_thing (P := l.prog) (w := w) (base := base) F7 D__law_pick D__law_channel D__law_key D__law_word, k7, b7, .nil⟩
  have Z__law_thing := thing_z (K := K) D__law_thing
  have D__law_track : Def l.prog w K mg base "_law_track" 4 spTrack := ⟨_, _, _, _, g8, ok_track (P := l.prog) (w := w) (base := base) F8 D__law_pick D__law_gap_of D__law_thing m_range m_min, k8, b8, .nil⟩
  have Z__law_track := track_z (K := K) D__law_track
  have D__law_same : Def l.prog w K mg base "_law_same" 5 (spSame K 4) := ⟨_, _, _, _, g9, ok_same (P := l.prog) (w := w) (base := base) F9 b9 g9 m_isinstance m_bool m_int m_str m_list m_tuple m_len m_all m_range 4, k9, b9, .nil⟩
  have Z__law_same := same_z (mg := mg) D__law_same
  have D_merged : Def l.prog w K mg base "merged" 4 (spZ K mg rzMerged) := ⟨_, _, _, _, g10, ok_merged (P := l.prog) (w := w) (base := base) F10 rfl TB10 mT10 uT10 m_enumerate m_sorted, k10, b10, .nil⟩
  have D_need_number : Def l.prog w K mg base "need_number" 1 (spZ K mg rzNeedNum0) := ⟨_, _, _, _, g11, ok_need_number0 (P := l.prog) (w := w) (base := base) F11 , k11, b11, .nil⟩
  have D_parted : Def l.prog w K mg base "parted" 2 (spZ K mg rzParted0) := ⟨_, _, _, _, g12, ok_parted0 (P := l.prog) (w := w) (base := base) F12 D_need_number m_range, k12, b12, .nil⟩
  exact ok_law (P := l.prog) (w := w) (base := base) F13 D__law_begin Z__law_pick Z__law_track Z__law_same D_merged D_parted m_range m_len m_sum m_sorted
end Rt
open PySem PySem.W PyProof.Rows
set_option maxRecDepth 100000 in
set_option maxHeartbeats 0 in
theorem PySem.Challenge.cw_reedtapes_k41_whole_merged_tracks_part_a_holds : PySem.Challenge.rw_reedtapes_k41_whole_merged_tracks_part_a.Holds := by
  w_on; o_law; k_head; (case hw => w_witness2)
  k_fill
  refine Rt.walkT (l := PySem.Challenge.rw_reedtapes_k41_whole_merged_tracks_part_a) (n := 63) (k := 7) (x := "_law_script") (CX := fun _ => L2.CX0) rfl (by decide) rfl ⟨rfl, by decide, by decide⟩ (fun w h Y => PySem.W.km_in_of Y) ?F (fun _ _ _ _ _ h => h)
  case F =>
    intro w mg fa h KX G hmg tabs
    refine' Rt.all_mk KX G hmg ?a1 ?l1 ?c1 ?k1 ?a2 ?l2 ?c2 ?k2 ?a3 ?l3 ?c3 ?k3 ?a4 ?l4 ?c4 ?k4 ?a5 ?l5 ?c5 ?k5 ?a6 ?l6 ?c6 ?k6 ?a7 ?l7 ?c7 ?k7 ?a8 ?l8 ?c8 ?k8 ?a9 ?l9 ?c9 ?k9 ?a10 ?l10 ?c10 ?k10 ?lx10 ?vt10 ?nt10 ?tl10 ?a11 ?l11 ?c11 ?k11 ?a12 ?l12 ?c12 ?k12 ?a13 ?l13 ?c13 ?k13 ?z_list ?z_len ?z_range ?z_isinstance ?z_bool ?z_int ?z_str ?z_tuple ?z_all ?z_sorted ?z_enumerate ?z_sum ?z_min
    (case a1 => k_is)
    (case l1 => k_is)
    (case c1 => k_is)
    (case k1 => k_is)
    (case a2 => k_is)
    (case l2 => k_is)
    (case c2 => k_is)
    (case k2 => k_is)
    (case a3 => k_is)
    (case l3 => k_is)
    (case c3 => k_is)
    (case k3 => k_is)
    (case a4 => k_is)
    (case l4 => k_is)
    (case c4 => k_is)
    (case k4 => k_is)
    (case a5 => k_is)
    (case l5 => k_is)
    (case c5 => k_is)
    (case k5 => k_is)
    (case a6 => k_is)
    (case l6 => k_is)
    (case c6 => k_is)
    (case k6 => k_is)
    (case a7 => k_is)
    (case l7 => k_is)
    (case c7 => k_is)
    (case k7 => k_is)
    (case a8 => k_is)
    (case l8 => k_is)
    (case c8 => k_is)
    (case k8 => k_is)
    (case a9 => k_is)
    (case l9 => k_is)
    (case c9 => k_is)
    (case k9 => k_is)
    (case a10 => k_is)
    (case l10 => k_is)
    (case c10 => k_is)
    (case k10 => k_is)
    (case lx10 => k_is)
    (case vt10 => rfl)
    (case nt10 => kernel_rfl)
    (case tl10 => refine tabs "merged" _ _ _ rfl (by kernel_rfl))
    (case a11 => k_is)
    (case l11 => k_is)
    (case c11 => k_is)
    (case k11 => k_is)
    (case a12 => k_is)
    (case l12 => k_is)
    (case c12 => k_is)
    (case k12 => k_is)
    (case a13 => k_is)
    (case l13 => k_is)
    (case c13 => k_is)
    (case k13 => k_is)
    (case z_list => k_is)
    (case z_len => k_is)
    (case z_range => k_is)
    (case z_isinstance => k_is)
    (case z_bool => k_is)
    (case z_int => k_is)
    (case z_str => k_is)
    (case z_tuple => k_is)
    (case z_all => k_is)
    (case z_sorted => k_is)
    (case z_enumerate => k_is)
    (case z_sum => k_is)
    (case z_min => k_is)
