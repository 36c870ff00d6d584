import PyProof.Rows.All
import Wide.All
import OpenK.AllK
import Wide.FinOn
import HandS.ForMost
import HandS.ForExc
import HandS.IsInst
import HandS.FStr
import HandS.TryMany
import HandS.ExcInit
import HandS.ExcField
import HandS.ExcIs
import HandS.Codes
import HandS.Defaults
import HandS.SortInts
import KE.KTypeName
import HandS.CallSlots
import HandS.Lambda
import HandS.EndTab
import KE.KNestM
import HandS.EndOwn
import KE.KEqSeq
import HandS.Zip
import HandS.WrittenGet
import HandS.TupAny
import HandS.FStrTup
import HandS.More
import HandS.SortKw
import KE.DataMinMax
import HandS.DictTup
import HandS.ListItems
import HandS.Small
import HandS.Style
import PyProof.DictMoreH
import OpenK.KOps
import HandS.TupLe
import HandS.TupSets
import KE.KDictCopyH
import HandS.Conv
import KE.GoesComp
import PySem.Challenge.RW_reedtapes_k32_stands_at_ticks
set_option Elab.async false
set_option linter.all false
set_option maxRecDepth 100000
set_option maxHeartbeats 4000000
namespace Rt
open PySem PySem.Spec PyProof.Rows L2
/-! ### heaps: what was known stays known -/
def Ex (H H' : Hp) : Prop := ∀ b o, H b = some o → H' b = some o
theorem Ex.refl (H : Hp) : Ex H H := fun _ _ h => h
theorem Ex.trans {H H1 H2 : Hp} (a : Ex H H1) (b : Ex H1 H2) : Ex H H2 := fun c o h => b c o (a c o h)
theorem Ex.to {H H' : Hp} {b : Addr} {o : HO} (e : Ex H H') (h : H b = some o) : H' b = some o := e b o h
theorem Ex.seq {K : PySem.W.Frag} {H H' : Hp} {a : Addr} {xs : List V} (e : Ex H H') (h : SqL K H a xs) : SqL K H' a xs := by
  rcases h with (h | ⟨o, h⟩) | h
  · exact .inl (.inl (e _ _ h))
  · exact .inl (.inr ⟨o, e _ _ h⟩)
  · exact .inr h
theorem Ex.new {H : Hp} {p : Addr} {o : HO} (h : H p = none) : Ex H (upd H p o) := fun a u e => by
  rw [upd_ne (ne_of_none e h)]
  exact e
theorem Ex.free {H H' : Hp} {p : Addr} (e : Ex H H') (h : H' p = none) : H p = none := by
  cases q : H p with
  | none => rfl
  | some o =>
    rw [e p o q] at h
    cases h
/-- a step of the heap: H0 what is settled, H all; m: what may be turned -/
structure Go (m : Addr → Prop) (E0 E H0 H : Hp) : Prop where
  up : Ex E0 H0
  inn : Ex H0 H
  new : ∀ b, E b ≠ none → E0 b = none → H0 b = none
  keep : ∀ b o, E b = some o → ¬ m b → H b = some o
  there : ∀ b, E b ≠ none → H b ≠ none
theorem Go.refl {m : Addr → Prop} {H0 H : Hp} (e : Ex H0 H) : Go m H0 H H0 H := ⟨Ex.refl _, e, fun _ _ h => h, fun _ _ h _ => h, fun _ h => h⟩
theorem Go.trans {m m' : Addr → Prop} {E0 E F0 F G0 G : Hp} (a : Go m E0 E F0 F) (b : Go m' F0 F G0 G) (hm : ∀ x, E x ≠ none → m' x → m x) : Go m E0 E G0 G where
  up := a.up.trans b.up
  inn := b.inn
  new := fun x h1 h2 => b.new x (a.there x h1) (a.new x h1 h2)
  keep := fun x o h n => b.keep x o (a.keep x o h n) fun z => n (hm x (by rw [h]; simp) z)
  there := fun x h => b.there x (a.there x h)
/-- the same, what may be turned being alike -/
theorem Go.then {m : Addr → Prop} {E0 E F0 F G0 G : Hp} (a : Go m E0 E F0 F) (b : Go m F0 F G0 G) : Go m E0 E G0 G := a.trans b fun _ _ h => h
/-- a new object, not settled -/
theorem Go.lay {m : Addr → Prop} {E0 E H0 H : Hp} {p : Addr} (o : HO) (a : Go m E0 E H0 H) (h : H p = none) : Go m E0 E H0 (upd H p o) where
  up := a.up
  inn := a.inn.trans (Ex.new h)
  new := a.new
  keep := fun x u q n => by
    rw [upd_ne (ne_of_none (a.keep x u q n) h)]
    exact a.keep x u q n
  there := fun x q => by
    by_cases e : x = p
    · rw [e, upd_same]; simp
    · rw [upd_ne e]; exact a.there x q
/-- a new object that is not known at the entry is turned -/
theorem Go.turn {m : Addr → Prop} {E0 E H0 H : Hp} {p : Addr} (o : HO) (a : Go m E0 E H0 H) (h : E p = none) (h0 : H0 p = none) : Go m E0 E H0 (upd H p o) where
  up := a.up
  inn := fun x u q => by
    rw [upd_ne (ne_of_none q h0)]
    exact a.inn x u q
  new := a.new
  keep := fun x u q n => by
    rw [upd_ne (ne_of_none q h)]
    exact a.keep x u q n
  there := fun x q => by
    by_cases e : x = p
    · rw [e, upd_same]; simp
    · rw [upd_ne e]; exact a.there x q
/-- what may be turned is turned -/
theorem Go.turnM {m : Addr → Prop} {E0 E H0 H : Hp} {p : Addr} (o : HO) (a : Go m E0 E H0 H) (h : m p) (h0 : H0 p = none) : Go m E0 E H0 (upd H p o) where
  up := a.up
  inn := fun x u q => by
    rw [upd_ne (ne_of_none q h0)]
    exact a.inn x u q
  new := a.new
  keep := fun x u q n => by
    have e : x ≠ p := fun z => n (z ▸ h)
    rw [upd_ne e]
    exact a.keep x u q n
  there := fun x q => by
    by_cases e : x = p
    · rw [e, upd_same]; simp
    · rw [upd_ne e]; exact a.there x q
/-- it is settled -/
theorem Go.set {m : Addr → Prop} {E0 E H0 H : Hp} {p : Addr} {o : HO} (a : Go m E0 E H0 H) (h : E p = none) (hp : H p = some o) (h0 : H0 p = none) : Go m E0 E (upd H0 p o) H where
  up := a.up.trans (Ex.new h0)
  inn := fun x u q => by
    by_cases e : x = p
    · rw [e, upd_same] at q
      rw [e, hp, q]
    · rw [upd_ne e] at q
      exact a.inn x u q
  new := fun x q r => by
    have e : x ≠ p := fun z => q (z ▸ h)
    rw [upd_ne e]
    exact a.new x q r
  keep := a.keep
  there := a.there
/-- a new object that is settled at once -/
theorem Go.put {m : Addr → Prop} {E0 E H0 H : Hp} {p : Addr} (o : HO) (a : Go m E0 E H0 H) (h : H p = none) : Go m E0 E (upd H0 p o) (upd H p o) := by
  have hE : E p = none := by
    cases q : E p with
    | none => rfl
    | some u => exact absurd h (a.there p (by rw [q]; simp))
  exact (a.lay o h).set hE upd_same (a.inn.free h)
theorem Go.mono {m m' : Addr → Prop} {E0 E H0 H : Hp} (a : Go m E0 E H0 H) (h : ∀ x, m x → m' x) : Go m' E0 E H0 H := ⟨a.up, a.inn, a.new, fun b o q n => a.keep b o q fun z => n (h b z), a.there⟩
/-- fresh now: fresh at the entry, and unsettled -/
theorem Go.fresh {m : Addr → Prop} {E0 E H0 H : Hp} {p : Addr} (a : Go m E0 E H0 H) (h : H p = none) : E p = none := by
  cases q : E p with
  | none => rfl
  | some u => exact absurd h (a.there p (by rw [q]; simp))
theorem Go.fresh0 {m : Addr → Prop} {E0 E H0 H : Hp} {p : Addr} (a : Go m E0 E H0 H) (h : H p = none) : H0 p = none := a.inn.free h
/-! ### the drawing's list -/
structure Dr (H0 H : Hp) (d : Addr) : Prop where
  ex : ∃ (a : Addr) (ns : List Int) (i j k l : Int), H d = some (.lst [.ref a, .int i, .int j, .int k, .int l]) ∧ H0 a = some (.lst (ns.map V.int)) ∧ 0 ≤ i ∧ 0 ≤ j ∧ 0 ≤ k ∧ k < 2000000000
  out : H0 d = none
theorem Dr.mono {H0 H H0' : Hp} {d : Addr} (x : Dr H0 H d) (e : Ex H0 H0') (n : H0' d = none) : Dr H0' H d := by
  obtain ⟨⟨a, ns, i, j, k, l, h1, h2, h3⟩, _⟩ := x
  exact ⟨⟨a, ns, i, j, k, l, h1, e _ _ h2, h3⟩, n⟩
theorem Dr.known {H0 H : Hp} {d : Addr} (x : Dr H0 H d) : H d ≠ none := by
  obtain ⟨⟨a, ns, i, j, k, l, h1, _⟩, _⟩ := x
  rw [h1]; simp
/-- a pure step leaves the drawing -/
theorem Dr.go {m : Addr → Prop} {H0 H H0' H' : Hp} {d : Addr} (x : Dr H0 H d) (g : Go m H0 H H0' H') (n : ¬ m d) : Dr H0' H' d := by
  have k := x.known
  obtain ⟨⟨a, ns, i, j, k', l, h1, h2, h3⟩, o⟩ := x
  exact ⟨⟨a, ns, i, j, k', l, g.keep _ _ h1 n, g.up _ _ h2, h3⟩, g.new d k o⟩
theorem Dr.lay {H0 H : Hp} {d p : Addr} (o : HO) (x : Dr H0 H d) (h : H p = none) : Dr H0 (upd H p o) d := by
  have k := x.known
  obtain ⟨⟨a, ns, i, j, k', l, h1, h2⟩, n⟩ := x
  exact ⟨⟨a, ns, i, j, k', l, by rw [upd_ne (ne_of_none h1 h)]; exact h1, h2⟩, n⟩
theorem Dr.turn {H0 H : Hp} {d p : Addr} (o : HO) (x : Dr H0 H d) (h : d ≠ p) : Dr H0 (upd H p o) d := by
  obtain ⟨⟨a, ns, i, j, k', l, h1, h2⟩, n⟩ := x
  exact ⟨⟨a, ns, i, j, k', l, by rw [upd_ne h]; exact h1, h2⟩, n⟩
theorem Dr.set {H0 H : Hp} {d p : Addr} (o : HO) (x : Dr H0 H d) (h0 : H0 p = none) (h : d ≠ p) : Dr (upd H0 p o) H d := x.mono (Ex.new h0) (by rw [upd_ne h]; exact x.out)
theorem Dr.ne {H0 H : Hp} {d p : Addr} (x : Dr H0 H d) (h : H p = none) : d ≠ p := fun z => x.known (z ▸ h)
theorem Ex.lay {H0 H : Hp} {p : Addr} (o : HO) (e : Ex H0 H) (h : H p = none) : Ex H0 (upd H p o) := e.trans (Ex.new h)
theorem Ex.turn {H0 H : Hp} {p : Addr} (o : HO) (e : Ex H0 H) (h : H0 p = none) : Ex H0 (upd H p o) := fun x u q => by
  rw [upd_ne (ne_of_none q h)]
  exact e x u q
theorem Ex.set {H0 H : Hp} {p : Addr} {o : HO} (e : Ex H0 H) (h : H p = some o) : Ex (upd H0 p o) H := fun x u q => by
  by_cases z : x = p
  · rw [z, upd_same] at q
    rw [z, h, q]
  · rw [upd_ne z] at q
    exact e x u q
/-- where a drawing def stands: A0, A at its entry, H0, H now -/
structure Sd (d : Addr) (A0 A H0 H : Hp) : Prop where
  go : Go (· = d) A0 A H0 H
  dr : Dr H0 H d
theorem Sd.ex {d : Addr} {A0 A H0 H : Hp} (S : Sd d A0 A H0 H) : Ex H0 H := S.go.inn
theorem Sd.here {d : Addr} {H0 H : Hp} (e : Ex H0 H) (x : Dr H0 H d) : Sd d H0 H H0 H := ⟨Go.refl e, x⟩
theorem Sd.call {d : Addr} {A0 A H0 H H0' H' : Hp} (S : Sd d A0 A H0 H) (g : Go (· = d) H0 H H0' H') (x : Dr H0' H' d) : Sd d A0 A H0' H' := ⟨S.go.then g, x⟩
theorem Sd.pure {d : Addr} {A0 A H0 H H0' H' : Hp} (S : Sd d A0 A H0 H) (g : Go (fun _ => False) H0 H H0' H') : Sd d A0 A H0' H' := ⟨S.go.trans g fun _ _ z => z.elim, S.dr.go g fun z => z⟩
theorem Sd.put {d p : Addr} {A0 A H0 H : Hp} (o : HO) (S : Sd d A0 A H0 H) (h : H p = none) : Sd d A0 A (upd H0 p o) (upd H p o) := ⟨S.go.put o h, (S.dr.lay o h).set o (S.ex.free h) (S.dr.ne h)⟩
theorem Sd.lay {d p : Addr} {A0 A H0 H : Hp} (o : HO) (S : Sd d A0 A H0 H) (h : H p = none) : Sd d A0 A H0 (upd H p o) := ⟨S.go.lay o h, S.dr.lay o h⟩
theorem Sd.turn {d p : Addr} {A0 A H0 H : Hp} (o : HO) (S : Sd d A0 A H0 H) (h : A p = none) (h0 : H0 p = none) (n : d ≠ p) : Sd d A0 A H0 (upd H p o) := ⟨S.go.turn o h h0, S.dr.turn o n⟩
theorem Sd.set {d p : Addr} {A0 A H0 H : Hp} {o : HO} (S : Sd d A0 A H0 H) (h : A p = none) (hp : H p = some o) (h0 : H0 p = none) (n : d ≠ p) : Sd d A0 A (upd H0 p o) H := ⟨S.go.set h hp h0, S.dr.set o h0 n⟩
/-! ### a def of the text, called by its name; dvs: the defaults that fill up -/
structure Def (P : Program) (w : World) (K : PySem.W.Frag) (mg : Str → Option Value) (base : Heap) (x : Str) (k : Nat) (sp : Sp) (dvs : List V := []) : Prop where
  ex : ∃ (f : Addr) (fd : FuncData) (ps : List Str) (ds : List Value), mg x = some (.ref f) ∧ FnOk P w K mg base CX0 k f fd ps sp ∧ PySem.W.keepIn K (.ref f) = true ∧ Binds K fd ps ds ∧ Vals dvs ds
section
variable {X : Cx} {x : Str} {p pos : Pos} {e : Expr} {es : List Expr} {t : TA} {k : Nat} {sp : Sp} {dvs : List V}
theorem pe_d (D : Def X.prog X.w X.K X.mg X.base x k sp dvs) (hr : Room k X.A) (hg : Gl X x) (ha : PA X (e :: es) t) (hdb : (x == ("__debug__" : Str)) = false := by decide)
    (he : starEach (e :: es) X.env = (false, eval e X.env) :: starEach es X.env := by rfl) (hpl : (backTo pos (starEach es X.env)).any (·.1) = false := by rfl) :
    PE X (.Call (.Name x p) (e :: es) [] pos) (tCall sp dvs E0 t) := by
  obtain ⟨f, fd, ps, ds, h1, h2, h3, h4, h5⟩ := D.ex
  exact pe_call h2 hr hg h1 h3 h4 h5 pass0 ha hdb he hpl
theorem pe_d0 (D : Def X.prog X.w X.K X.mg X.base x k sp dvs) (hr : Room k X.A) (hg : Gl X x) (hdb : (x == ("__debug__" : Str)) = false := by decide) :
    PE X (.Call (.Name x p) [] [] pos) (tCall sp dvs E0 tNil) := by
  obtain ⟨f, fd, ps, ds, h1, h2, h3, h4, h5⟩ := D.ex
  exact pe_call0 h2 hr hg h1 h3 h4 h5 pass0 hdb
end
section
variable {P : Program} {w : World} {K : PySem.W.Frag} {mg : Str → Option Value} {base : Heap} {x qual : Str} {params : Arguments} {body : List Stmt} {scope : Scope} {dvs : List V} {kws : List (Str × V)} {f : Addr} {fd : FuncData}
/-- a def with defaults that lets nothing out -/
theorem okD0 {N ps : List Str} {k : Nat} {sp : Sp} (F : FunD K x qual params body scope dvs kws f fd) (S : FnScope N ps scope) (len : ∀ vs H Q E, sp vs H Q E → vs.length = ps.length)
    (hbody : ∀ (cdv : Value) (A : Around) (outer : List Env) (s : Shared) (H : Hp) (vs : List V) (Q : VK) (E : XK), Room k (A.deeper (envOfC qual scope s.heap.objs.size f cdv)) → sp vs H Q E →
      ∃ t, PSs (cxOf CX0 P w K mg base N qual scope f cdv A outer s H E).nox body t ∧ t { nx := fun _ H' => Q .non H', rt := Q } (start N vs) H) : FnOk P w K mg base CX0 (k + 1) f fd ps sp :=
  F.ok S len fun cdv A outer s H vs Q E hr hsp =>
    let ⟨t, h, q⟩ := hbody cdv A outer s H vs Q E hr hsp
    ⟨t, h.nox, q⟩
end
/-! ### numbers as rows of bytes -/
def gtl (r : Nat) : List Nat := if h : r = 0 then [] else (128 + r % 128) :: gtl (r / 128)
termination_by r
decreasing_by omega
theorem gtl0 : gtl 0 = [] := by rw [gtl]; rfl
theorem gtl1 {r : Nat} (h : r ≠ 0) : gtl r = (128 + r % 128) :: gtl (r / 128) := by
  rw [gtl, dif_neg h]
def gapB (n : Nat) : List Nat := ((n % 128) :: gtl (n / 128)).reverse
def val (l : List Nat) : Nat := l.foldl (fun t b => t * 128 + b % 128) 0
theorem val_snoc (l : List Nat) (b : Nat) : val (l ++ [b]) = val l * 128 + b % 128 := by
  unfold val
  rw [List.foldl_append]
  rfl
theorem val_gtl (r : Nat) : val (gtl r).reverse = r := by
  induction r using Nat.strongRecOn with
  | _ r ih =>
    by_cases h : r = 0
    · subst h
      rw [gtl0]
      rfl
    · rw [gtl1 h, List.reverse_cons, val_snoc, ih (r / 128) (by omega)]
      omega
theorem gapB_eq (n : Nat) : gapB n = (gtl (n / 128)).reverse ++ [n % 128] := by
  unfold gapB
  rw [List.reverse_cons]
theorem val_gapB (n : Nat) : val (gapB n) = n := by
  rw [gapB_eq, val_snoc, val_gtl]
  omega
theorem gtl_len : ∀ (k r : Nat), r < 128 ^ k → (gtl r).length ≤ k
  | 0, r, h => by
    have e : r = 0 := by omega
    subst e
    rw [gtl0]
    exact Nat.zero_le _
  | k + 1, r, h => by
    by_cases z : r = 0
    · subst z
      rw [gtl0]
      exact Nat.zero_le _
    · rw [gtl1 z, List.length_cons]
      have := gtl_len k (r / 128) (by rw [Nat.pow_succ] at h; omega)
      omega
theorem gapB_len {n : Nat} (h : n < 268435456) : (gapB n).length ≤ 4 := by
  rw [gapB_eq, List.length_append, List.length_reverse]
  have := gtl_len 3 (n / 128) (by omega)
  show (gtl (n / 128)).length + 1 ≤ 4
  omega
theorem gapB_pos (n : Nat) : 0 < (gapB n).length := by
  rw [gapB_eq, List.length_append]
  show 0 < _ + 1
  omega
theorem gtl_mono (a b : Nat) (h : a ≤ b) : (gtl a).length ≤ (gtl b).length := by
  induction b using Nat.strongRecOn generalizing a with
  | _ b ih =>
    by_cases z : a = 0
    · subst z
      rw [gtl0]
      exact Nat.zero_le _
    · rw [gtl1 z, gtl1 (show b ≠ 0 by omega), List.length_cons, List.length_cons]
      have := ih (b / 128) (by omega) (a / 128) (by omega)
      omega
theorem gapB_mono {a b : Nat} (h : a ≤ b) : (gapB a).length ≤ (gapB b).length := by
  rw [gapB_eq, gapB_eq, List.length_append, List.length_append, List.length_reverse, List.length_reverse]
  have := gtl_mono (a / 128) (b / 128) (by omega)
  exact Nat.add_le_add_right this _
theorem gtl_big (r b : Nat) (h : b ∈ gtl r) : 128 ≤ b ∧ b < 256 := by
  induction r using Nat.strongRecOn with
  | _ r ih =>
    by_cases z : r = 0
    · subst z
      rw [gtl0] at h
      cases h
    · rw [gtl1 z] at h
      rcases List.mem_cons.mp h with e | e
      · omega
      · exact ih (r / 128) (by omega) e
theorem gtl_last (r b : Nat) (h : (gtl r).getLast? = some b) : b ≠ 128 := by
  induction r using Nat.strongRecOn with
  | _ r ih =>
    by_cases z : r = 0
    · subst z
      rw [gtl0] at h
      cases h
    · rw [gtl1 z] at h
      by_cases z2 : r / 128 = 0
      · rw [z2, gtl0] at h
        have e : 128 + r % 128 = b := Option.some.inj h
        omega
      · rw [List.getLast?_cons] at h
        cases q : (gtl (r / 128)).getLast? with
        | none =>
          rw [gtl1 z2] at q
          simp at q
        | some c =>
          rw [q] at h
          have e : c = b := Option.some.inj h
          subst e
          exact ih (r / 128) (by omega) q
theorem gapB_all (n b : Nat) (h : b ∈ gapB n) : b < 256 := by
  rw [gapB_eq] at h
  rcases List.mem_append.mp h with e | e
  · exact (gtl_big _ _ (List.mem_reverse.mp e)).2
  · have : b = n % 128 := by simpa using e
    omega
theorem gapB_head {n b : Nat} (h : (gapB n)[0]? = some b) (hb : 128 ≤ b) : b ≠ 128 := by
  rw [gapB_eq] at h
  cases q : (gtl (n / 128)).reverse with
  | nil =>
    rw [q] at h
    have e : n % 128 = b := Option.some.inj h
    omega
  | cons c l =>
    rw [q] at h
    have e : c = b := Option.some.inj h
    subst e
    refine gtl_last (n / 128) c ?_
    have z : gtl (n / 128) = l.reverse ++ [c] := by
      have := congrArg List.reverse q
      rw [List.reverse_reverse, List.reverse_cons] at this
      exact this
    rw [z]
    simp
theorem gapB_mid {n i b : Nat} (h : (gapB n)[i]? = some b) (hi : i + 1 < (gapB n).length) : 128 ≤ b := by
  rw [gapB_eq] at h hi
  rw [List.length_append] at hi
  have hi' : i < (gtl (n / 128)).reverse.length := by
    have : i + 1 < (gtl (n / 128)).reverse.length + 1 := hi
    omega
  rw [List.getElem?_append_left hi'] at h
  exact (gtl_big _ _ (List.mem_reverse.mp (List.mem_of_getElem? h))).1
theorem gapB_end {n i b : Nat} (h : (gapB n)[i]? = some b) (hi : i + 1 = (gapB n).length) : b < 128 := by
  rw [gapB_eq] at h hi
  rw [List.length_append] at hi
  have e : i = (gtl (n / 128)).reverse.length := by
    have : i + 1 = (gtl (n / 128)).reverse.length + 1 := hi
    omega
  subst e
  rw [List.getElem?_append_right (Nat.le_refl _), Nat.sub_self] at h
  have e : n % 128 = b := Option.some.inj h
  omega
theorem flat_len : ∀ (l : List Nat), (∀ n ∈ l, n < 268435456) → (l.flatMap gapB).length ≤ 4 * l.length
  | [], _ => Nat.zero_le _
  | n :: l, h => by
    have h1 := flat_len l fun m hm => h m (List.mem_cons_of_mem _ hm)
    have h2 := gapB_len (h n (List.mem_cons_self ..))
    rw [List.flatMap_cons, List.length_append, List.length_cons]
    omega
def nums (l : List Nat) : List V := l.map fun (n : Nat) => V.int (n : Int)
theorem nums_snoc (l : List Nat) (b : Nat) : nums (l ++ [b]) = nums l ++ [.int (b : Int)] := by
  unfold nums
  rw [List.map_append]
  rfl
theorem nums_len (l : List Nat) : (nums l).length = l.length := by
  unfold nums
  rw [List.length_map]
theorem nums_at {l : List Nat} {i b : Nat} (h : l[i]? = some b) : (nums l)[i]? = some (.int (b : Int)) := by
  unfold nums
  rw [List.getElem?_map, h]
  rfl
theorem nums_app (l r : List Nat) : nums (l ++ r) = nums l ++ nums r := by
  unfold nums
  rw [List.map_append]
theorem nums_eq (l : List Nat) : nums l = (l.map fun (n : Nat) => (n : Int)).map V.int := by
  unfold nums
  rw [List.map_map]
  rfl
theorem nums_inv {l : List Nat} {i : Nat} {y : V} (h : (nums l)[i]? = some y) : ∃ b, l[i]? = some b ∧ y = .int (b : Int) := by
  unfold nums at h
  rw [List.getElem?_map] at h
  cases e : l[i]? with
  | none => rw [e] at h; cases h
  | some x => rw [e] at h; exact ⟨x, rfl, (Option.some.inj h).symm⟩
/-! ### names of the language -/
theorem bt_isinstance : bootBuiltins ("isinstance" : Str) = some (.builtin "isinstance") := by decide +kernel
theorem bt_all : bootBuiltins ("all" : Str) = some (.builtin "all") := by decide +kernel
theorem bt_any : bootBuiltins ("any" : Str) = some (.builtin "any") := by decide +kernel
theorem bt_sum : bootBuiltins ("sum" : Str) = some (.builtin "sum") := by decide +kernel
theorem bt_sorted : bootBuiltins ("sorted" : Str) = some (.builtin "sorted") := by decide +kernel
theorem bt_min : bootBuiltins ("min" : Str) = some (.builtin "min") := by decide +kernel
theorem bt_max : bootBuiltins ("max" : Str) = some (.builtin "max") := by decide +kernel
theorem bt_ord : bootBuiltins ("ord" : Str) = some (.builtin "ord") := by decide +kernel
theorem bt_abs : bootBuiltins ("abs" : Str) = some (.builtin "abs") := by decide +kernel
theorem bt_chr : bootBuiltins ("chr" : Str) = some (.builtin "chr") := by decide +kernel
theorem bt_list : bootBuiltins ("list" : Str) = some (.type "list") := by decide +kernel
theorem bt_tuple : bootBuiltins ("tuple" : Str) = some (.type "tuple") := by decide +kernel
theorem bt_int : bootBuiltins ("int" : Str) = some (.type "int") := by decide +kernel
theorem bt_str : bootBuiltins ("str" : Str) = some (.type "str") := by decide +kernel
theorem bt_bool : bootBuiltins ("bool" : Str) = some (.type "bool") := by decide +kernel
theorem bt_dict : bootBuiltins ("dict" : Str) = some (.type "dict") := by decide +kernel
def rLenQ (K : PySem.W.Frag) : List V → Hp → VK → Prop := fun xs H Q => ∃ p ys, xs = [.ref p] ∧ (SqL K H p ys ∨ SqT K H p ys) ∧ Q (.int ys.length) H
theorem call_lenQ {X : Cx} : CallR X (.builtin "len") (rLenQ X.K) := call_len_seq
theorem map_ref {ps : List Addr} {i : Nat} {x : Addr} (h : ps[i]? = some x) : (ps.map V.ref)[i]? = some (.ref x) := by
  rw [List.getElem?_map, h]
  rfl
theorem any_rep (n : Nat) : (List.replicate n false).any id = false := by
  induction n with
  | zero => rfl
  | succ k ih => rw [List.replicate_succ, List.any_cons, ih]; rfl
theorem all_rep (n : Nat) : (List.replicate n true).all id = true := by
  induction n with
  | zero => rfl
  | succ k ih => rw [List.replicate_succ, List.all_cons, ih]; rfl
/-- gap_bytes of a number within its bounds: a new list -/
def spGapBytes : Sp := fun vs H Q _ => ∃ (n : Nat) (H0 : Hp), vs = [.int (n : Int)] ∧ n < 268435456 ∧ Ex H0 H ∧
  ∀ (p : Addr) (H' : Hp), Go (fun _ => False) H0 H H0 H' → H p = none → H' p = some (.lst (nums (gapB n))) → Q (.ref p) H'
theorem str_len (a b : Str) : (a ++ b).length = a.length + b.length := by
  first
    | exact PySem.strLen_append a b
    | exact PySem.Str.length_append a b
theorem log_small {n : Nat} (h : n < 10 ^ 40) : n.log2 < 1920 := by
  by_cases z : n = 0
  · subst z
    decide
  · rw [Nat.log2_lt z]
    exact Nat.lt_of_lt_of_le h (Nat.le_trans (show 10 ^ 40 ≤ 2 ^ 160 by decide) (Nat.pow_le_pow_right (by decide) (by decide)))
theorem txt_sz {a : Str} {i : Int} (ha : a.length ≤ 1000) (h : i.natAbs < 10 ^ 40) : (a ++ (toString i : String)).length ≤ 3000 := by
  have h2 := PyProof.Rows.int_text_len_1921 (log_small h)
  rw [str_len]
  have : (PySem.Str.ofString (toString i)).length ≤ 1921 := h2
  omega
/-! ### data that stand in a heap -/
theorem Ex.tup {K : PySem.W.Frag} {H H' : Hp} {a : Addr} {xs : List V} (e : Ex H H') (h : SqT K H a xs) : SqT K H' a xs := by
  rcases h with (h | ⟨o, h⟩) | h
  · exact .inl (.inl (e _ _ h))
  · exact .inl (.inr ⟨o, e _ _ h⟩)
  · exact .inr h
mutual
theorem dp_up {K : PySem.W.Frag} {H H' : Hp} (e : Ex H H') : ∀ (d : PyData) (v : V), Dp K H v d → Dp K H' v d
  | .none, _, h => by cases h; exact .non
  | .bool b, _, h => by cases h; exact .bl b
  | .int i, _, h => by cases h; exact .int i
  | .str x, _, h => by cases h; exact .str x
  | .list ds, _, h => by
    cases h with
    | lst hs ha => exact .lst (e.seq hs) (dpa_up e ds _ ha)
  | .tuple ds, _, h => by
    cases h with
    | tup hs ha => exact .tup (e.tup hs) (dpa_up e ds _ ha)
  | .dict _, _, h => by cases h
theorem dpa_up {K : PySem.W.Frag} {H H' : Hp} (e : Ex H H') : ∀ (ds : List PyData) (vs : List V), DpAll K H vs ds → DpAll K H' vs ds
  | [], _, h => by cases h; exact .nil
  | d :: ds, _, h => by
    cases h with
    | cons h1 h2 => exact .cons (dp_up e d _ h1) (dpa_up e ds _ h2)
end
theorem dpa_len {K : PySem.W.Frag} {H : Hp} : ∀ {ds : List PyData} {vs : List V}, DpAll K H vs ds → vs.length = ds.length
  | [], _, h => by cases h; rfl
  | d :: ds, _, h => by
    cases h with
    | cons h1 h2 => exact congrArg Nat.succ (dpa_len h2)
theorem dpa_at {K : PySem.W.Frag} {H : Hp} : ∀ (ds : List PyData) (vs : List V) (i : Nat) (d : PyData), DpAll K H vs ds → ds[i]? = some d → ∃ v, vs[i]? = some v ∧ Dp K H v d
  | [], _, _, _, _, h => by simp at h
  | d :: ds, _, 0, d', h, e => by
    cases h with
    | cons h1 h2 =>
      have e := Option.some.inj e
      subst e
      exact ⟨_, rfl, h1⟩
  | d :: ds, _, i + 1, d', h, e => by
    cases h with
    | cons h1 h2 =>
      obtain ⟨v, e1, e2⟩ := dpa_at ds _ i d' h2 e
      exact ⟨v, e1, e2⟩
theorem dep_at : ∀ {ds : List PyData} {i : Nat} {d : PyData}, ds[i]? = some d → d.depth ≤ PyData.depthAll ds
  | [], _, _, e => by simp at e
  | d :: ds, 0, d', e => by
    have e := Option.some.inj e
    subst e
    exact Nat.le_max_left _ _
  | d :: ds, i + 1, d', e => Nat.le_trans (dep_at (ds := ds) e) (Nat.le_max_right _ _)
mutual
/-- no list in it is longer than 100000 -/
def smA : PyData → Prop
  | .list xs => xs.length ≤ 100000 ∧ smAll xs
  | .tuple xs => xs.length ≤ 100000 ∧ smAll xs
  | .dict _ => False
  | .none => True
  | .bool _ => True
  | .int _ => True
  | .str _ => True
def smAll : List PyData → Prop
  | [] => True
  | x :: xs => smA x ∧ smAll xs
end
theorem sm_at : ∀ {ds : List PyData} {i : Nat} {d : PyData}, smAll ds → ds[i]? = some d → smA d
  | [], _, _, _, e => by simp at e
  | d :: ds, 0, d', h, e => by
    have e := Option.some.inj e
    subst e
    exact h.1
  | d :: ds, i + 1, d', h, e => sm_at (ds := ds) h.2 e
theorem tyL {K : PySem.W.Frag} {H : Hp} {a : Addr} {xs : List V} (h : SqL K H a xs) : TyX K H (.ref a) (.type "list") := by
  rcases h with (h | ⟨o, h⟩) | ⟨o, its, n, h1, h2, _⟩
  · exact .base (.lst h)
  · exact .base (.frz h)
  · exact .kList h1 h2
theorem tyT {K : PySem.W.Frag} {H : Hp} {a : Addr} {xs : List V} (h : SqT K H a xs) : TyX K H (.ref a) (.type "tuple") := by
  rcases h with (h | ⟨o, h⟩) | ⟨o, its, n, h1, h2, _⟩
  · exact .base (.tup h)
  · exact .fTuple h
  · exact .kTuple h1 h2
/-- the type of a datum -/
def tyOf : PyData → String
  | .none => "NoneType"
  | .bool _ => "bool"
  | .int _ => "int"
  | .str _ => "str"
  | .list _ => "list"
  | .tuple _ => "tuple"
  | .dict _ => "dict"
theorem tyD {K : PySem.W.Frag} {H : Hp} {v : V} {d : PyData} (h : Dp K H v d) : TyX K H v (.type (tyOf d)) := by
  cases h with
  | non => exact .base .non
  | bl b => exact .base (.bl b)
  | int i => exact .base (.int i)
  | str x => exact .base (.str x)
  | lst hs _ => exact tyL hs
  | tup hs _ => exact tyT hs
theorem pe_nev {X : Cx} {e : Expr} : PE X e (fun _ _ _ => False) := ⟨fun _ _ _ _ _ _ h => h.elim⟩
theorem go_ex {H0 H H0' H' : Hp} (g : Go (fun _ => False) H0 H H0' H') : Ex H H' := fun b o h => g.keep b o h fun z => z
/-! ### ifs -/
theorem ifT {c : Bool} {A B : Prop} (hc : c = true) (h : A) : if c = true then A else B := by
  rw [if_pos hc]
  exact h
theorem ifF {c : Bool} {A B : Prop} (hc : c = false) (h : B) : if c = true then A else B := by
  rw [hc, if_neg Bool.false_ne_true]
  exact h
theorem ifD {c : Prop} [Decidable c] {A B : Prop} (h1 : c → A) (h2 : ¬ c → B) : if decide c = true then A else B := by
  by_cases h : c
  · exact ifT (decide_eq_true h) (h1 h)
  · exact ifF (decide_eq_false h) (h2 h)
theorem mem_sz {n : Nat} (h : n ≤ 1000000) : n ≤ sizeLine := Nat.le_trans h (by rw [sizeLine_eq]; decide)
theorem mem_lt {n : Nat} (h : n ≤ 1000000) : n < sizeLine := Nat.lt_of_le_of_lt h (by rw [sizeLine_eq]; decide)
theorem map_int {ns : List Int} {i : Nat} {x : Int} (h : ns[i]? = some x) : (ns.map V.int)[i]? = some (.int x) := by
  rw [List.getElem?_map, h]
  rfl
theorem map_int_inv {ns : List Int} {i : Nat} {y : V} (h : (ns.map V.int)[i]? = some y) : ∃ x, ns[i]? = some x ∧ y = .int x := by
  rw [List.getElem?_map] at h
  cases e : ns[i]? with
  | none => rw [e] at h; cases h
  | some x => rw [e] at h; exact ⟨x, rfl, (Option.some.inj h).symm⟩
end Rt

namespace Rt
open PySem PySem.Spec PySem.W PySem.Calls PyProof.Rows Builtin Builtin.ObjectAttr Builtin.Getset_descriptor
/-- the class at C bears the name z -/
structure Nmd (K : PySem.W.Frag) (C : Addr) (z : Str) : Prop where
  rd : PySem.W.readsIn K C (.type "type") = true
  fc : PySem.W.findCls K (.ref C) (.type "type") "__name__" = some (.get (.builtin "getset_descriptor.__get__") (.builtin "type.__name__") (.ref C) (.type "type"))
  ty : PySem.W.typeIn K (.ref C) = some (.type "type")
  nm : ∃ o tk, K.lookup C = some o ∧ (o.slots[2]?).join = some (.str z tk)
section
variable {prog : Program} {w : World} {A : Around} {E : Value → Shared → Prop} {s : Shared} {K : PySem.W.Frag} {R : Result → Shared → Prop}
theorem name_dga (d tp : Value) (C : Addr) : descrGetArgs ⟨[d, .ref C, tp], []⟩ = pure (d, some (.ref C), given tp) := by kernel_rfl
theorem name_get {C : Addr} {z : Str} {tp : Value} (X : K.In s.heap) (N : Nmd K C z) (h : ∀ tk, R (.ok (.ret (.str z tk))) s) :
    codeAny (model prog w) A (.call (.builtin "getset_descriptor.__get__") ⟨[.builtin "type.__name__", .ref C, tp], []⟩) R s := by
  obtain ⟨o, tk, hC, hz⟩ := N.nm
  obtain ⟨hh, g, dr, t, os⟩ := s
  have L0 : PySem.W.Looks (model prog w) hh (typeOf (.ref C)) (.type "type") := looks_typeIn X N.ty
  have L1 : PySem.W.Looks (model prog w) hh (isSubtype (.type "type") (.type "type")) true := Looks.of_pure (by rw [isSubtype_type]; kernel_rfl)
  have hget : hh.get? C = some o := X _ _ hC
  refine codeAny_call_builtin KF.slot_gs.plain KF.entry_gs (KF.slot_gs.check _ _ _ _ _ _ _ _ ktyn_type (KF.args_gs _ _ _) ?_)
  unfold Builtin.«getset_descriptor.__get__» descrGet
  rw [name_dga]
  refine wpAny_bind (wpAny_pure ?_)
  unfold descrGetter descrCheckInstance descrNameAndClass isInstance
  simp only [ktyn_owner]
  repeat lk
  refine ⟨Code.quiet_builtin _ (by decide +kernel), codeAny_builtin ktyn_entry ?_⟩
  unfold Builtin.«type.__name__»
  dsimp only
  unfold Builtin.keptObject slotAt
  refine wpAny_bind (wpAny_bind (wpAny_loadPart_at hget (wpAny_pure ?_)))
  rw [hz]
  exact wpAny_pure (h tk)
/-- C.__name__ -/
theorem name_attr {C : Addr} {z : Str} {expr : Bool} {Q : Value → Shared → Prop} (X : K.In s.heap) (N : Nmd K C z) (h : ∀ tk, Q (.str z tk) { s with toks := s.toks + 1 }) : wpAny (model prog w) A (getAttr (.ref C) "__name__" expr) Q E s := by
  refine cls_bind X N.rd N.fc ?_
  exact wpAny_call (name_get (s := { s with toks := s.toks + 1 }) X N fun tk => handed_on rfl (h tk))
end
/-- what an error's class says of __class__ -/
structure ClsE (K : PySem.W.Frag) (C : Addr) : Prop where
  ga : PySem.W.findIn K (.ref C) "__getattribute__" = some (some (.builtin "BaseException.__getattribute__"))
  gg : PySem.W.findIn K (.ref C) "__getattr__" = some none
  sb : PySem.W.subIn K (.ref C) (.type "BaseException") = some true
  hd : PySem.W.hasDictIn K C = true
  ca : PySem.W.findIn K (.ref C) "__class__" = some (some (.builtin "object.__class__"))
  cg : PySem.W.specialIn K (.builtin "object.__class__") "__get__" = some (some (.builtin "getset_descriptor.__get__"))
  ct : PySem.W.takesIn K (.builtin "object.__class__") = some true
  mo : PySem.W.mroIn K C (.type "object") = some true
section
variable {prog : Program} {w : World} {A : Around} {E : Value → Shared → Prop} {s : Shared} {K : PySem.W.Frag} {x D : Addr} {ox : Obj} {od : Option Obj}
/-- x.__class__ of an error of the class at D -/
theorem cls_attr {expr : Bool} {Q : Value → Shared → Prop} (T : ClsE K D) (X : K.In s.heap) (I : PySem.W.InstAt s.heap x ox D od) (hf : PySem.W.findObj K D od "__class__" = some (.bind (.builtin "getset_descriptor.__get__") (.builtin "object.__class__")))
    (h : Q (.ref D) { s with toks := s.toks + 1 }) : wpAny (model prog w) A (getAttr (.ref x) "__class__" expr) Q E s := by
  obtain ⟨hp, g, d, t, os⟩ := s
  have K0 := I.type (M := model prog w)
  have K1 := looks_findIn (M := model prog w) X T.ga
  have K2 := looks_findIn (M := model prog w) X T.gg
  have K3 := looks_find (M := model prog w) X I hf
  have up : PySem.W.Looks (model prog w) hp (isInstance (.ref x) (.type "BaseException")) true := K0.andThen (looks_subIn X T.sb)
  have b0 : (expr && onTheHeap (Value.builtin "BaseException.__getattribute__")) = false := by cases expr <;> rfl
  have b2 : (Value.builtin "BaseException.__getattribute__" == Value.builtin "object.__getattribute__") = false := by decide +kernel
  have b1 : (onTheHeap (Value.ref D) && Value.builtin "BaseException.__getattribute__" == Value.builtin "object.__getattribute__") = false := by rw [b2]; rfl
  unfold getAttr getAttrBy
  refine wpAny_bind (wpAny_mkText ?_)
  refine wpAny_holding (wpAny_bind (K0.at (wpAny_bind (K1.at ?_))))
  show wpAny _ _ (if (onTheHeap (Value.ref D) && Value.builtin "BaseException.__getattribute__" == Value.builtin "object.__getattribute__") = true then _ else _) _ _ _
  rw [b1]
  rw [if_neg Bool.false_ne_true]
  unfold getAttrByItsOwn hookBefore
  refine wpAny_bind ?_
  rw [if_pos (show onTheHeap (Value.ref D) = true by rfl)]
  refine K2.at (wpAny_bind (wpAny_attempt ?_))
  refine wpAny_holding ?_
  unfold callGetattribute
  rw [b0]
  rw [if_neg Bool.false_ne_true]
  unfold boundAndCalled
  rw [PySem.F.excAttr_ValueError.ga.bind (Value.ref x)]
  refine wpAny_bind (wpAny_pure ?_)
  show wpAny _ _ (call (.builtin "BaseException.__getattribute__") [.ref x, .str "__class__" t]) _ _ _
  refine wpAny_call ?_
  refine codeAny_call_builtin PySem.F.excAttr_ValueError.ga.plain PySem.F.entry_bexc_ga ?_
  refine @check_slot (model prog w) _ _ ⟨hp, g, d, t + 1, os⟩ "BaseException.__getattribute__" "BaseException" "__getattribute__" (.ref x) [.str "__class__" t] [] _ (by decide +kernel) (by decide +kernel) up (PySem.F.args_bexc_ga (.ref x) (.str "__class__" t)) ?_
  unfold Builtin.«object.__getattribute__»
  refine wpAny_bind (wpAny_of_eq (a := ((Value.ref x : Value), [Value.str "__class__" t])) (by first | rfl | (simp only [slotArgs]; rfl)) ?_)
  refine wpAny_bind (wpAny_pure (wpAny_bind (K0.at ?_)))
  refine wpAny_bind (K3.at ?_)
  show wpAny _ _ (holding [Value.builtin "object.__class__"] (call (.builtin "getset_descriptor.__get__") [.builtin "object.__class__", .ref x, .ref D]) >>= ret) _ _ _
  refine wpAny_bind (wpAny_holding (wpAny_call ?_))
  refine class_get (s := ⟨hp, g, d, t + 1, os⟩) (ox := ox) (od := od) X I T.mo ?_
  first
    | exact wpAny_pure (handed_on rfl (wpAny_pure h))
    | exact wpAny_pure (handed_on rfl h)
    | exact wpAny_pure (wpAny_bind (handed_on rfl (wpAny_pure h)))
end
end Rt

namespace Rt
open PySem PySem.Spec PyProof.Rows L2
/-! ### errors with the field called -/
def tCN (K : PySem.W.Frag) (te : TE) : TE := fun σ H Q => te σ H fun x H1 => ∃ (a C : Addr) (z : Str), x = .ref a ∧ ClsE K C ∧ Nmd K C z ∧ H1 a = some (exo a C none) ∧ Q (.str z) H1
/-- self.__class__.__name__ of an error that is being made -/
theorem pe_cn {X : Cx} {o : Expr} {te : TE} {p1 p2 : Pos} (ho : PE X o te) (hb1 : attributeBase o "__class__" X.env (eval o X.env) = eval o X.env := by rfl)
    (hb2 : attributeBase (.Attribute o "__class__" p1) "__name__" X.env (eval (.Attribute o "__class__" p1) X.env) = eval (.Attribute o "__class__" p1) X.env := by rfl) :
    PE X (.Attribute (.Attribute o "__class__" p1) "__name__" p2) (tCN X.K te) := by
  refine ⟨fun pins s σ H Q I h => ?_⟩
  refine attr_of hb2 (attr_of hb1 (thn (ho.run pins s σ H _ I h) fun u s1 hh => ?_))
  obtain ⟨x, H1, I1, rx, a, C, z, ex, T, N, ea, q⟩ := hh
  subst ex
  obtain rfl : u = Value.ref a := rx
  obtain ⟨t1, he⟩ := exo_at I1.hok ea
  have J : PySem.W.InstAt s1.heap a _ C none := ⟨he, rfl, rfl, trivial⟩
  have hf := PySem.W.findObj_dataN (K := X.K) (C := C) (name := "__class__") (by obtain ⟨cd, hc, _⟩ := PySem.W.any_some T.hd; rw [hc]; rfl) T.ca T.cg T.ct
  refine cls_attr T I1.kIn J hf ?_
  have I2 := I1.tok (s1.toks + 1)
  refine name_attr I2.kIn N fun tk => ?_
  exact ⟨.str z, H1, I2.tok _, ⟨tk, rfl⟩, q⟩
/-- all that a raise asks of an error's class: its name, its class object, the word that its errors bear -/
structure Err (K : PySem.W.Frag) (mg : Str → Option Value) (x : Str) (C : Addr) (z word : Str) : Prop where
  g : mg x = some (.ref C)
  oex : OexC K C
  cls : ClsE K C
  nmd : Nmd K C z
  nc : PySem.W.findIn K (.ref C) "called" = some none
  low : Txt.lower z = word
  sz : z.length ≤ 1000
/-- TapeError.__init__ (and its like): self.called is the class's name in small letters -/
def spInit (K : PySem.W.Frag) : Sp := fun vs H Q _ => ∃ (a C : Addr) (why : V) (z : Str), vs = [.ref a, why] ∧ OexC K C ∧ ClsE K C ∧ Nmd K C z ∧ PySem.W.findIn K (.ref C) "called" = some none ∧ z.length ≤ 1000 ∧ H a = some (exo a C none) ∧
  ∀ dx, H dx = none → dx ≠ a → Q .non (upd (upd H dx (exd dx [("called", .str (Txt.lower z))])) a (exo a C (some dx)))
/-- the rule of __init__ as the program has it -/
theorem init_reads {K : PySem.W.Frag} {Q : VK} {E : XK} {vs : List V} {H : Hp} (h : spInit K vs H Q E) :
    tSeq (tDrop (tVeI K (tCons (tVar 0) (tCons (tVar 1) tNil)))) (tSeq (tAsg (tCN K (tVar 0)) (gName 2)) (tOst K "called" (tVar 0) (fun σ H Q => (tVar 2) σ H fun x H1 => ∃ a, x = .str a ∧ ([] : List V) = [] ∧ a.length ≤ 5592405 ∧ Q (.str (Txt.lower a)) H1)))
      { nx := fun _ H' => Q .non H', rt := Q } (L2.start ["self", "why", "name"] vs) H := by
  obtain ⟨a, C, why, z, rfl, T1, T2, T3, T4, hz, ha, q⟩ := h
  refine ⟨_, rfl, _, rfl, a, C, _, rfl, (by show 1 ≤ 1000; decide), T1, ha, ?_⟩
  refine ⟨_, rfl, a, C, z, rfl, T2, T3, ha, ?_⟩
  refine ⟨_, rfl, _, rfl, rfl, by omega, ?_⟩
  exact ⟨_, rfl, a, C, rfl, T1, T4, .inl ⟨ha, fun dx h1 h2 => q dx h1 h2⟩⟩
end Rt

namespace Rt
open PySem PySem.Spec PyProof.Rows L2
/-! ### several clauses, each with a name (slot i) -/
abbrev wipeEnds (i : Nat) (D : Ends) : Ends := { nx := fun τ G => D.nx (τ.set i none) G, rt := D.rt, bk := fun τ G => D.bk (τ.set i none) G, ct := fun τ G => D.ct (τ.set i none) G }
def wAll (K : PySem.W.Frag) (i : Nat) (W0 : WX) (D : Ends) : List (Value × (Addr → Value → Option Addr → TS)) → WX
  | [] => W0
  | p :: r => fun cls d τ G => ∃ b, PySem.W.exmOne K cls p.1 = some b ∧ (b = true → ∀ a, G a = none → p.2 a cls d (wipeEnds i D) (τ.set i (some (.ref a))) G) ∧ (b = false → wAll K i W0 D r cls d τ G)
inductive Hds (X : Cx) (n : Str) : List ExceptHandler → List (Value × (Addr → Value → Option Addr → TS)) → Prop
  | nil : Hds X n [] []
  | cons {x : Str} {c : Value} {ts : Addr → Value → Option Addr → TS} {b₀ : Stmt} {su : List Stmt} {np q : Pos} {hds : List ExceptHandler} {l : List (Value × (Addr → Value → Option Addr → TS))} (hc : Names X x c)
      (go : ∀ (a : Addr) (oe : Obj) (cls : Value) (d : Option Addr) (pn : List (Addr × Obj)), Zc cls d oe → (∃ vs, oe.data = .fields vs) → PSs (X.suite a ((a, oe) :: pn)) (b₀ :: su) (ts a cls d)) (r : Hds X n hds l) :
      Hds X n (.ExceptHandler (some (.Name x np)) (some n) (b₀ :: su) q :: hds) ((c, ts) :: l)
section
variable {X : Cx} {n : Str} {i : Nat} {body : List Stmt} {h1 : ExceptHandler} {hds : List ExceptHandler} {l : List (Value × (Addr → Value → Option Addr → TS))} {pos : Pos} {tb : WX → TS} {W0 : WX}
theorem ps_try_all (hs : X.stack = X.env :: X.outer) (hf : X.env.frame = some X.env.locals) (hN : X.N.Nodup) (hi : X.N[i]? = some n) (hln : X.env.kindOf n = some .local) (tk : Takes X W0)
    (hb : ∀ (W : WX) (pn : List (Addr × Obj)) (xe : Value → Shared → Prop), Takes (X.tr pn xe) W → PassesOwn (model X.prog X.w) X.A X.env xe → PSs (X.tr pn xe) body (tb W))
    (hh : Hds X n (h1 :: hds) l) : PS X (.Try body (h1 :: hds) [] [] pos) (fun D σ H => tb (wAll X.K i W0 D l) D σ H) := by
  refine ⟨fun pins s σ H D I h => ?_⟩
  have ok := I.ok
  have frm : X.A.frames = some (X.env :: X.outer) := by
    rw [ok.frames, hs]
  have nloc : Loc X.env.scope n := Or.inl hln
  have run := (hb (wAll X.K i W0 D l) (X.pn ++ pins) (fun e s₁ => wpAny (model X.prog X.w) X.A (noteFrame e X.env) (fun _ s₂ => wpAny (model X.prog X.w) X.A (setFlight e none) (fun _ s₃ =>
    wpAny (model X.prog X.w) X.A (handleBy e X.env (h1 :: hds)) (SP X pins D) X.xe s₃) X.xe s₂) X.xe s₁) (fun u s' xx => ?_) PassesOwn.looking).run [] s σ H D (I.toTry _) h
  · refine wpAny_Try_except (wpAny_mono run (fun f s1 hsp => ?_) (fun e s1 he => he))
    cases f with
    | next =>
      obtain ⟨τ, G, J, q⟩ := hsp
      exact wpAny_execs_nil ⟨τ, G, J.ofTry ok, q⟩
    | brk =>
      obtain ⟨τ, G, J, q⟩ := hsp
      exact ⟨τ, G, J.ofTry ok, q⟩
    | cont =>
      obtain ⟨τ, G, J, q⟩ := hsp
      exact ⟨τ, G, J.ofTry ok, q⟩
    | ret u =>
      obtain ⟨v, τ, G, J, r, q⟩ := hsp
      exact ⟨v, τ, G, J.ofTry ok, r, q⟩
  · obtain ⟨a, B, sI, pins', τ, G, cls, d, rfl, J', nb, up, sky, na, os, ag, w⟩ := xx
    have J : Inv X pins τ G sI := J'.ofTry ok
    have sky1 : Sky B (X.env :: X.outer) a (Zc cls d) X.env.locals s'.heap := by
      rw [← hs]; exact sky
    show wpAny (model X.prog X.w) X.A (noteFrame (.ref a) X.env) _ _ _
    refine Sky.land Zc.steady frm hf sky1 fun h3 fl3 up3 => ?_
    have J3 : Inv X pins τ G { s' with heap := h3 } := J.landed nb fl3.1 (up.trans up3) os ag
    obtain ⟨oe3, vs3, he3, hz3, hd3⟩ := fl3.there
    have off : ∀ {k : Heap} {o : Obj} {vs : Array Value}, k.FunFrames B (X.env :: X.outer) → k.get? a = some o → o.data = .fields vs → a ∉ frs (X.env :: X.outer) := by
      intro k o vs ff e dd hm
      obtain ⟨_, o', e', hnf⟩ := ff.mem hm
      rw [e] at e'
      cases e'
      exact hnf _ dd
    have nfr := off fl3.2.2.1 he3 hd3
    have nL : a ≠ X.env.locals := by
      intro z
      exact nfr (List.mem_filterMap.mpr ⟨X.env, List.mem_cons_self, by rw [hf, z]⟩)
    have nF : a ∉ X.fs := by
      intro hm
      obtain ⟨e, he, q⟩ := List.mem_filterMap.mp hm
      exact nfr (List.mem_filterMap.mpr ⟨e, List.mem_cons_of_mem _ he, q⟩)
    have S3 := J3.suite he3 hd3 na nL nF
    have go : ∀ {hds' : List ExceptHandler} {l' : List (Value × (Addr → Value → Option Addr → TS))}, Hds X n hds' l' → wAll X.K i W0 D l' cls d τ G →
        wpAny (model X.prog X.w) X.A (handleBy (.ref a) X.env hds') (SP X pins D) X.xe { s' with heap := h3 } := by
      intro hds' l' hk
      induction hk with
      | nil =>
        intro w
        refine wpAny_handleBy_nil ?_
        obtain ⟨k1, k2, k3, oe, vs, T, oT, ts', he, hz, hd, hv1, hr⟩ := id fl3
        unfold PySem.passOn
        refine wpAny_bind (wpAny_field he hd hv1 ?_)
        rw [if_neg (show ¬ ((Value.ref T == Value.none) = true) by simp)]
        have out : wpAny (model X.prog X.w) X.A (setFlight (.ref a) X.env.frame) (fun _ s4 => wpAny (model X.prog X.w) X.A (throw (.ref a) : Sem Flow) (SP X pins D) X.xe s4) X.xe { s' with heap := h3 } := by
          rw [hf]
          refine HandSPX.setFlight_upZ fl3 fun h4 hh4 up4 => ?_
          refine wpAny_throw (tk _ _ ⟨a, B, sI, pins, τ, G, cls, d, rfl, J, nb, (up.trans up3).trans up4, ?_, na, os, ag, w⟩)
          exact Or.inr (Or.inr (by rw [hs]; exact hh4))
        first
          | exact wpAny_bind (wpAny_pure (wpAny_bind out))
          | exact wpAny_bind out
      | @cons x c ts b₀ su np q hds2 l2 hc hsu r ih =>
        intro w
        obtain ⟨b, hb1, hyes, hno⟩ := w
        refine wpAny_handleBy_cons (codeAny_handlers_test ?_) (by intro q; cases q)
        have LT : PySem.W.Looks (model X.prog X.w) h3 (typeOf (.ref a)) cls := by
          intro A Q E s k q
          exact wpAny_typeOf_ref (k _ _ he3) (by rw [hz3.1]; exact q)
        have LM := PySem.W.exm_one (M := model X.prog X.w) (J3.kIn) LT hb1
        have test : ∀ {Q : Value → Shared → Prop} {E : Value → Shared → Prop}, Q c { s' with heap := h3 } → wpAny (model X.prog X.w) (X.A.mark (some (.ref a))) (eval (.Name x np) X.env) Q E { s' with heap := h3 } := by
          intro Q E q
          obtain ⟨hg, hdbg, hm⟩ := hc
          rcases hm with hm | ⟨hm, hv, hnn⟩
          · exact ld_glob (X := X.suite a ((a, oe3) :: (X.pn ++ pins))) S3 hg hm q hdbg
          · exact ld_blt (X := X.suite a ((a, oe3) :: (X.pn ++ pins))) S3 hg hm hv q hnn hdbg
        refine test (LM.here ?_)
        cases b with
        | false =>
          show wpAny _ X.A (handleBy (.ref a) X.env hds2) _ _ _
          exact ih (hno rfl)
        | true =>
          refine codeAny_handlers_suite_as (HandSPX.lands_againZ fl3 fun h4 fl4 up4 => ?_)
          have J4 : Inv X pins τ G { s' with heap := h4 } := J.landed nb fl4.1 ((up.trans up3).trans up4) os ag
          obtain ⟨oe4, vs4, he4, hz4, hd4⟩ := fl4.there
          have S4 := J4.suite he4 hd4 na nL nF
          refine store_ok (X := X.suite a ((a, oe4) :: (X.pn ++ pins))) (v := .ref a) S4 hN hi nloc rfl (fun s5 S5 => ?_) (Or.inr hln)
          have fin : ∀ {τ6 : L2.St} {G6 : Hp} {s6 : Shared} {Q : Shared → Prop}, Inv (X.suite a ((a, oe4) :: (X.pn ++ pins))) [] τ6 G6 s6 → (∀ s7, Inv X pins (τ6.set i none) G6 s7 → Q s7) →
              wpAny (model X.prog X.w) X.A (do bindName X.env n .none; unbindBehindTheSuite X.env n q) (fun _ s7 => Q s7) X.xe s6 := by
            intro τ6 G6 s6 Q S6 hq
            exact gone_ok (S6.unsuite ok) hN hi hln hq
          refine wpAny_mono ((hsu a oe4 cls d (X.pn ++ pins) hz4 ⟨_, hd4⟩).run [] s5 _ G _ S5 (hyes rfl a na)) (fun f s6 hsp => ?_) (fun _ _ z => False.elim z)
          cases f with
          | next =>
            obtain ⟨τ6, G6, S6, q6⟩ := hsp
            exact fin S6 fun s7 J7 => ⟨_, _, J7, q6⟩
          | brk =>
            obtain ⟨τ6, G6, S6, q6⟩ := hsp
            exact fin S6 fun s7 J7 => ⟨_, _, J7, q6⟩
          | cont =>
            obtain ⟨τ6, G6, S6, q6⟩ := hsp
            exact fin S6 fun s7 J7 => ⟨_, _, J7, q6⟩
          | ret u =>
            obtain ⟨v6, τ6, G6, S6, r6, q6⟩ := hsp
            exact fin S6 fun s7 J7 => ⟨_, _, _, J7, r6, q6⟩
    exact go hh w
end
end Rt

namespace Rt
open PySem PySem.Spec PyProof.Rows L2
/-- an error of the program, in flight: its class bears word (tape: under TapeError, else under MissingError); nothing else is turned -/
structure Raised (K : PySem.W.Frag) (mg : Str → Option Value) (word : Str) (tape : Bool) (H : Hp) (cls : Value) (d : Option Addr) (H' : Hp) : Prop where
  ex : ∃ (C CT CM dd : Addr), cls = .ref C ∧ d = some dd ∧ H dd = none ∧ H' = upd H dd (.xd [("called", .str word)]) ∧ XfC K C ∧ PySem.W.findIn K (.ref C) "called" = some none ∧
    mg "TapeError" = some (.ref CT) ∧ mg "MissingError" = some (.ref CM) ∧ PySem.W.exmOne K (.ref C) (.ref CT) = some tape ∧ (tape = false → PySem.W.exmOne K (.ref C) (.ref CM) = some true)
/-- an error's class with its __init__ (level k) -/
structure ErrK (P : Program) (w : World) (K : PySem.W.Frag) (mg : Str → Option Value) (base : Heap) (k : Nat) (x word : Str) (tape : Bool) : Prop where
  ex : ∃ (C CT CM fI : Addr) (z : Str) (fd : FuncData), Err K mg x C z word ∧ PySem.W.findIn K (.ref C) "__init__" = some (some (.ref fI)) ∧ PySem.W.typeIn K (.ref fI) = some (.type "function") ∧
    FnOk P w K mg base CX0 k fI fd ["self", "why"] (spInit K) ∧ Binds K fd ["self", "why"] [] ∧ XfC K C ∧
    mg "TapeError" = some (.ref CT) ∧ mg "MissingError" = some (.ref CM) ∧ PySem.W.exmOne K (.ref C) (.ref CT) = some tape ∧ (tape = false → PySem.W.exmOne K (.ref C) (.ref CM) = some true)
/-- raise X(why) -/
def tRaiseK (K : PySem.W.Frag) (mg : Str → Option Value) (word : Str) (tape : Bool) (W : WX) (ta : TA) : TS := fun _ σ H => ta σ H fun vs H1 => ∃ why, vs = [why] ∧ ∀ cls d H', Raised K mg word tape H1 cls d H' → W cls d σ H'
/-- a reading with room: what is read may be weakened -/
def tUp (ta : TA) : TA := fun σ H Q => ∃ R : List V → Hp → Prop, ta σ H R ∧ ∀ vs H1, R vs H1 → Q vs H1
theorem pa_up {X : Cx} {es : List Expr} {ta : TA} (ha : PA X es ta) : PA X es (tUp ta) := ⟨fun pos pins s σ H Q I ⟨R, h, imp⟩ => thn (ha.run pos pins s σ H R I h) fun us s1 ⟨vs, H1, I1, r, q⟩ => ⟨vs, H1, I1, r, imp vs H1 q⟩⟩
section
variable {X : Cx} {x word : Str} {tape : Bool} {k : Nat} {e : Expr} {es : List Expr} {ta : TA} {W : WX} {p pos pos2 : Pos}
theorem ps_raiseK (hc : X.calm = true) (T : ErrK X.prog X.w X.K X.mg X.base k x word tape) (hr : Room (k + 1) X.A) (tk : Takes X W) (hg : Gl X x) (ha : PA X (e :: es) ta) (hdb : (x == ("__debug__" : Str)) = false := by decide)
    (he : starEach (e :: es) X.env = (false, eval e X.env) :: starEach es X.env := by rfl) (hpl : (backTo pos (starEach es X.env)).any (·.1) = false := by rfl) :
    PS X (.Raise (some (.Call (.Name x p) (e :: es) [] pos)) none pos2) (tRaiseK X.K X.mg word tape W ta) := by
  obtain ⟨C, CT, CM, fI, z, fd, R, iC, tI, F1, hb, xf, g1, g2, m1, m2⟩ := T.ex
  have mk := pmk_oex (X := X) (CX := CX0) (p := p) (pos := pos) R.oex iC tI F1 hr hb .nil pass0 hg R.g (pa_up ha) hdb he hpl
  have rs := ps_raise (pos := pos2) hc tk mk
  refine ⟨fun pins s σ H D I h => rs.run pins s σ H D I ?_⟩
  -- from our reading to the rule's
  have imp : ∀ (vs : List V) (H1 : Hp), (∃ why, vs = [why] ∧ ∀ cls d H', Raised X.K X.mg word tape H1 cls d H' → W cls d σ H') →
      vs.length ≤ 1000 ∧ ∀ a, H1 a = none → spInit X.K (.ref a :: (vs ++ [])) (upd H1 a (exo a C none))
        (fun v H2 => v = .non ∧ ∃ (d : Addr) (fs : List (Str × V)), H2 a = some (exo a C (some d)) ∧ H2 d = some (exd d fs) ∧ H1 d = none ∧ W (.ref C) (some d) σ (upd (del H2 a) d (.xd fs))) (fun _ _ _ => False) := by
    rintro vs H1 ⟨why, rfl, q⟩
    refine ⟨(by show 1 ≤ 1000; decide), fun a ha => ⟨a, C, why, z, rfl, R.oex, R.cls, R.nmd, R.nc, R.sz, upd_same, fun dx hdx nda => ⟨rfl, dx, [("called", .str (Txt.lower z))], upd_same, ?_, ?_, ?_⟩⟩⟩
    · rw [upd_ne nda, upd_same]
    · rw [upd_ne nda] at hdx
      exact hdx
    · rw [upd_ne nda] at hdx
      refine q _ _ _ ⟨C, CT, CM, dx, rfl, rfl, hdx, ?_, xf, R.nc, g1, g2, m1, m2⟩
      funext b
      by_cases e1 : b = dx
      · rw [e1, upd_same, upd_same, R.low]
      · rw [upd_ne e1, upd_ne e1]
        by_cases e2 : b = a
        · rw [e2, del_same, ha]
        · rw [del_ne e2, upd_ne e2, upd_ne e1, upd_ne e2]
  exact ⟨_, h, imp⟩
end
end Rt

namespace Rt
open PySem PySem.Spec PyProof.Rows L2 LamX
/-! ### a def that is handed a lambda and calls it; what is raised is wished for at the slots -/
section
variable {X : Cx} {pins : List (Addr × Obj)} {σ : L2.St} {H : Hp} {s : Shared}
theorem pe_ask {CXg : CXT} {Eg : XK} {Ng : List Str} {qg : Str} {sg : Scope} {g f c' : Addr} {cdg pm ctv : Value} {params : Arguments} {body : Expr} {scope : Scope} {k i : Nat} {a : Str} {pn : List (Addr × Obj)} {xe : Value → Shared → Prop} {W : WX} {tb : XK → TE} {p1 p2 : Pos}
    (I : Inv X pins σ H s) (L : LamS X.env.scope scope) (hf : s.heap.get? f = some (PySem.W.kla_obj "<lambda>" (X.env.qual ++ "<lambda>") params body scope (cloFrom X.env.cells scope.names []) pm c' ctv)) (hfn : H f = none) (hfr : f ∉ frs X.stack)
    (hbind : bindArgs (PySem.W.kla_fn "<lambda>" (X.env.qual ++ "<lambda>") params body scope (cloFrom X.env.cells scope.names []) pm (.ref c') ctv) ⟨[], []⟩ = pure [])
    (tk : Takes ((cxOf CXg X.prog X.w X.K X.mg X.base Ng qg sg g cdg X.A X.stack s H Eg).tr pn xe) W) (hr : Room (k + 1) (X.A.deeper (envOfC qg sg s.heap.objs.size g cdg)))
    (hbody : ∀ (E : XK) (A : Around) (outer : List Env) (s : Shared) (H : Hp), Room k (A.deeper (lamEnv X scope s.heap.objs.size f c')) → PE (lamCx X A outer s H E scope f c') body (tb E))
    (hN : Ng[i]? = some a) (hv : Vis sg a) (hd : (a == ("__debug__" : Str)) = false := by decide) (hcd : (a == ("__classdict__" : Str)) = false := by decide) :
    PE ((cxOf CXg X.prog X.w X.K X.mg X.base Ng qg sg g cdg X.A X.stack s H Eg).tr pn xe) (.Call (.Name a p1) [] [] p2)
      (fun τ G Q => τ[i]? = some (some (.ref f)) ∧ G c' = some (CodeO c' (X.env.qual ++ "<lambda>")) ∧ ∃ (Ec : XK) (R : VK), (∀ cls d G', Ec cls d G' → W cls d τ G') ∧ (∀ v G', R v G' → Q v G') ∧ tb Ec σ G R) := by
  refine ⟨fun pinsZ sZ τ G Q IZ h => ?_⟩
  obtain ⟨hs, hc, Ec, R, hW, hR, ht⟩ := h
  have nm := (pe_var (X := (cxOf CXg X.prog X.w X.K X.mg X.base Ng qg sg g cdg X.A X.stack s H Eg).tr pn xe) (pos := p1) (i := i) hN hv hd hcd).run pinsZ sZ τ G (fun v H1 => v = .ref f ∧ H1 = G) IZ ⟨.ref f, hs, rfl, rfl⟩
  refine wpAny_Call_Name_kw (thn nm fun u s1 hu => ?_)
  obtain ⟨v, H1, I1, r1, ev, eH⟩ := hu
  subst ev
  rw [eH] at I1
  obtain rfl : u = Value.ref f := r1
  have un : Un (frs X.stack) [] H G s.heap s1.heap := I1.base
  have of1 := un.keep f _ hf hfn hfr (fun z => nomatch (show f ∈ ([] : List Addr) from z))
  refine PySem.W.callWith_F0 ⟨_, _, _, _, of1⟩ ?_
  obtain ⟨⟨oc, vs, t, hoc, hdc, hvc⟩, _, _⟩ := I1.hok c' _ hc
  have rc : codeAny (model X.prog X.w) (X.A.deeper (envOfC qg sg s.heap.objs.size g cdg)) (.call (.ref f) ⟨[], []⟩)
      (CR (L2.CX X.prog X.w) (envOfC qg sg s.heap.objs.size g cdg :: X.stack) X.prog X.w G s1 Q Ec) s1 := by
    refine PySem.W.kla_callFunE hr.depth of1 rfl L.co L.gen rfl ⟨c', oc, vs, t, rfl, hoc, hdc, hvc⟩ ?_
    rw [hbind]
    refine wpAny_pure (wpAny_newFunctionEnv (fun y hy => (L.own y hy).2) (fun y hy => absurd hy (by simp)) (fun h₁ hns hsb => ?_) L.kind)
    refine ⟨I1.nolimit.fresh _ hsb, ?_⟩
    show codeAny _ _ (.expr body (lamEnv X scope s1.heap.objs.size f c')) _ _
    have kp : ∀ b o, s1.heap.get? b = some o → h₁.get? b = some o := by
      intro b o e
      exact hsb.extBut b o (Nat.ne_of_lt (Heap.lt_size e)) (Heap.get?_push_of_some _ e)
    have J : Inv (lamCx X (X.A.deeper (envOfC qg sg s.heap.objs.size g cdg)) (envOfC qg sg s.heap.objs.size g cdg :: X.stack) s1 G Ec scope f c') [] σ G
        { s1 with heap := h₁, toks := s1.toks + ([] : List (Str × Value)).length } := lam_start2 I L I1.env0 hr.hd un hns kp
    refine PySem.W.kla_codeExpr (wpAny_mono ((hbody Ec _ _ s1 G (hr.deeper _)).run [] _ _ G R J ht) (fun v s' hq => ?_) fun e s' hq => hq)
    obtain ⟨w', H', J', rv, q⟩ := hq
    exact ⟨w', H', J'.os, J'.bare, J'.base, J'.hok, rv, hR _ _ q⟩
  refine wpAny_call (codeAny_mono rc fun r s' hq => ?_)
  cases r with
  | error e => exact tk e s' (XE.of_call I1 (fun cls d G' hE => hW cls d G' hE) hq)
  | ok fl =>
    cases fl with
    | ret u => exact I1.after hq
    | next => exact False.elim hq
    | brk => exact False.elim hq
    | cont => exact False.elim hq
end
/-- the def with its lambda in slot 0; TT: what it makes of the lambda's reading (tl E H Q: E what is wished of an error) -/
def Asks (X : Cx) (Ng : List Str) (x : Str) (sg : Scope) (g : Addr) (cdg : Value) (bg : List Stmt) (a : Str) (q : Str) (TT : (XK → Hp → VK → Prop) → Hp → VK → Prop) : Prop :=
  ∀ (f c' : Addr) (s : Shared) (H : Hp) (Q : VK) (tl : XK → Hp → VK → Prop),
    (∀ (W : WX) (pn : List (Addr × Obj)) (xe : Value → Shared → Prop) (p1 p2 : Pos), Takes ((cxOf C8.CX0 X.prog X.w X.K X.mg X.base Ng x sg g cdg X.A X.stack s H C8.E0).tr pn xe) W →
      PE ((cxOf C8.CX0 X.prog X.w X.K X.mg X.base Ng x sg g cdg X.A X.stack s H C8.E0).tr pn xe) (.Call (.Name a p1) [] [] p2) (fun τ G Q => τ[0]? = some (some (.ref f)) ∧ G c' = some (CodeO c' q) ∧ ∃ (Ec : XK) (R : VK), (∀ cls d G', Ec cls d G' → W cls d τ G') ∧ (∀ v G', R v G' → Q v G') ∧ tl Ec G R)) →
    H c' = some (CodeO c' q) → TT tl H Q →
    ∃ t, PSs (cxOf C8.CX0 X.prog X.w X.K X.mg X.base Ng x sg g cdg X.A X.stack s H C8.E0).nox bg t ∧ t { nx := fun _ H' => Q .non H', rt := Q } (L2.start Ng [.ref f]) H
section
variable {X : Cx}
/-- x(lambda: body) -/
theorem pe_asks {T : List (Addr × Str)} {TT : (XK → Hp → VK → Prop) → Hp → VK → Prop} {x a : Str} {g c P : Addr} {k : Nat} {pg : Arguments} {bg : List Stmt} {sg : Scope} {dV kV doc pm cdv ct oc : Value} {an od : Option Addr} {osl : Array (Option Value)} {Ng : List Str}
    {params : Arguments} {body : Expr} {scope : Scope} {t : XK → TE} {p lpos pos : Pos} (hg : Gl X x) (hm : X.mg x = some (.ref g)) (hk : PySem.W.keepIn X.K (.ref g) = true)
    (lk : X.K.lookup g = some ⟨oc, od, .func (PySem.W.fnOf x x pg bg sg dV kV doc pm an cdv ct), osl⟩) (hcg : PySem.W.codeIn X.K cdv x = true) (hb : L2.Binds X.K (PySem.W.fnOf x x pg bg sg dV kV doc pm an cdv ct) [a] []) (Sg : FnScope Ng [a] sg) (hNg : Ng[0]? = some a) (hva : Vis sg a)
    (hG : Asks X Ng x sg g cdv bg a (X.env.qual ++ "<lambda>") TT)
    (TB : TabB X.base X.mg c P) (hcode : X.env.code = .ref c) (hmT : (P, X.env.qual ++ "<lambda>") ∈ T) (hu : ∀ p ∈ T, p.1 = P → p.2 = X.env.qual ++ "<lambda>") (hr : Room (k + 2) X.A) (L : LamS X.env.scope scope) (hdef : defaultsOf params X.env = ([], []))
    (hbind : ∀ (q : Str) (cl : List (Str × Addr)) (pm cv ctv : Value), bindArgs (PySem.W.kla_fn "<lambda>" q params body scope cl pm cv ctv) ⟨[], []⟩ = pure [])
    (hbody : ∀ (E : XK) (A : Around) (outer : List Env) (s : Shared) (H : Hp) (f c' : Addr), Room k (A.deeper (lamEnv X scope s.heap.objs.size f c')) → PE (lamCx X A outer s H E scope f c') body (t E))
    (hdb : (x == ("__debug__" : Str)) = false := by decide) (hd : (a == ("__debug__" : Str)) = false := by decide) (hcd : (a == ("__classdict__" : Str)) = false := by decide) :
    PE X (.Call (.Name x p) [.Lambda params body scope lpos] [] pos) (tLam T TT t) := by
  refine ⟨fun pins s σ H Q I ⟨hT, h⟩ => ?_⟩
  refine wpAny_Call_Name_kw (ld_glob I hg hm ?_ hdb)
  refine PySem.W.callWith_K (h₀ := X.base) I.ok.mod.kin hk ?_ (by rfl) (by rfl)
  show wpAny _ _ (spliced ((false, eval (.Lambda params body scope lpos) X.env) :: backTo pos (starEach [] X.env))) _ _ s
  have made := fun (Q : Value → Shared → Prop) (E : Value → Shared → Prop) => lam_make2 (Q := Q) (E := E) (params := params) (body := body) (pos := lpos) I TB hcode hmT hu hT hdef (L.has I.ok)
  refine Calls.spliced_cons (made _ _ ?_)
  intro f c' pm' ctv H1 s' I1 eN T1 hf hfn hfr hco
  refine Calls.spliced_nil ⟨I1.kIn, ?_⟩
  have rc : codeAny (model X.prog X.w) X.A (.call (.ref g) ⟨[.ref f], []⟩) (CR C8.CX0 X.stack X.prog X.w H1 s' Q C8.E0) s' := by
    refine run_ofS (N := Ng) (ps := [a]) (us := [.ref f]) (vs := [.ref f]) lk hcg Sg hr I1.env0 (hb s' [.ref f] I1.kIn rfl) (.cons rfl .nil) rfl fun hr' => ?_
    have act := fun (W : WX) (pn : List (Addr × Obj)) (xe : Value → Shared → Prop) (p1 p2 : Pos) (tk : Takes ((cxOf C8.CX0 X.prog X.w X.K X.mg X.base Ng x sg g cdv X.A X.stack s' H1 C8.E0).tr pn xe) W) =>
      pe_ask (i := 0) (p1 := p1) (p2 := p2) (tb := t) I1 L hf hfn hfr (hbind _ _ _ _ _) tk hr' (fun E A outer s H hr2 => hbody E A outer s H f c' hr2) hNg hva hd hcd
    obtain ⟨t', ht', hq'⟩ := hG f c' s' H1 Q (fun E H' Q' => t E σ H' Q') act hco (h H1 eN T1)
    exact ⟨t', ht'.nox, hq'⟩
  refine wpAny_call (codeAny_mono rc fun r s2 hq => ?_)
  cases r with
  | error e => exact False.elim (show False from hq)
  | ok fl =>
    cases fl with
    | ret u => exact I1.after hq
    | next => exact False.elim hq
    | brk => exact False.elim hq
    | cont => exact False.elim hq
end
/-- e.f of the error that a suite holds, whatever its class -/
theorem pe_xfA {X : Cx} {a : Addr} {oe : Obj} {cls : Value} {d : Option Addr} {pn : List (Addr × Obj)} {e : Expr} {te : TE} {pos : Pos} {n : Str} (hz : Zc cls d oe) (hf : ∃ vs, oe.data = .fields vs) (he : PE (X.suite a ((a, oe) :: pn)) e te)
    (hb : attributeBase e n X.env (eval e X.env) = eval e X.env := by rfl) :
    PE (X.suite a ((a, oe) :: pn)) (.Attribute e n pos) (fun σ H Q => ∃ C, XfC X.K C ∧ PySem.W.findIn X.K (.ref C) n = some none ∧ tXf a cls d C n te σ H Q) :=
  ⟨fun pins s σ H Q I ⟨C, T, hno, h⟩ => (pe_xf T hno hz hf he hb).run pins s σ H Q I h⟩
end Rt

namespace Rt
open PySem PySem.Spec PyProof.Rows L2 LamX
/-- a def of the text that may let an error out -/
structure DefX (P : Program) (w : World) (K : PySem.W.Frag) (mg : Str → Option Value) (base : Heap) (x : Str) (k : Nat) (sp : Sp) : Prop where
  ex : ∃ (f : Addr) (fd : FuncData) (ps : List Str), mg x = some (.ref f) ∧ FnOk P w K mg base (L2.CX P w) k f fd ps sp ∧ PySem.W.keepIn K (.ref f) = true ∧ Binds K fd ps []
section
variable {X : Cx} {x : Str} {p pos : Pos} {e : Expr} {es : List Expr} {t : TA} {k : Nat} {sp : Sp} {W : WX}
theorem pe_dx (D : DefX X.prog X.w X.K X.mg X.base x k sp) (hr : Room k X.A) (hg : Gl X x) (tk : Takes X W) (ha : PA X (e :: es) t) (hdb : (x == ("__debug__" : Str)) = false := by decide)
    (he : starEach (e :: es) X.env = (false, eval e X.env) :: starEach es X.env := by rfl) (hpl : (backTo pos (starEach es X.env)).any (·.1) = false := by rfl) :
    PE X (.Call (.Name x p) (e :: es) [] pos) (tCallS sp (WE W) t) := by
  obtain ⟨f, fd, ps, h1, h2, h3, h4⟩ := D.ex
  exact pe_callS h2 hr hg h1 h3 h4 (fun σ => passAt tk σ) ha hdb he hpl
end
section
variable {P : Program} {w : World} {K : PySem.W.Frag} {mg : Str → Option Value} {base : Heap}
/-- a def whose code object is known -/
theorem okC {x qual : Str} {st : Stmt} {f c : Addr} {fd : FuncData} {N ps : List Str} {k : Nat} {sp : Sp} (F : Fun K x qual st f fd) (hcode : fd.code = .ref c) (S : FnScope N ps (defScope st)) (len : ∀ vs H Q E, sp vs H Q E → vs.length = ps.length)
    (hbody : ∀ (A : Around) (outer : List Env) (s : Shared) (H : Hp) (vs : List V) (Q : VK) (E : XK), Room k (A.deeper (envOfC qual (defScope st) s.heap.objs.size f (.ref c))) → sp vs H Q E →
      ∃ t, PSs (cxOf CX0 P w K mg base N qual (defScope st) f (.ref c) A outer s H E).nox (defBody st) t ∧ t { nx := fun _ H' => Q .non H', rt := Q } (L2.start N vs) H) : FnOk P w K mg base CX0 (k + 1) f fd ps sp := by
  obtain ⟨oc, od, kV, doc, pm, an, cdv, ct, osl, rfl, lk, hcd⟩ := F.ex
  have e : cdv = .ref c := hcode
  subst e
  refine fn_of lk hcd S len fun A outer s H vs Q E hr hsp => ?_
  obtain ⟨t, h, q⟩ := hbody A outer s H vs Q E hr hsp
  exact ⟨t, h.nox, q⟩
end
/-! ### tables of code objects -/
theorem tabs_but {T : List (Addr × Str)} {H H' : Hp} {d : Addr} {xs : List V} (t : Tabs T H) (hd : H d = some (.lst xs)) (k : ∀ b o, H b = some o → b ≠ d → H' b = some o) : Tabs T H' := by
  intro p hp
  obtain ⟨ps, h1, h2, h3⟩ := t p hp
  refine ⟨ps, k _ _ h1 (fun z => ?_), h2, fun pos cv hc => ?_⟩
  · rw [z, hd] at h1
    cases h1
  · obtain ⟨c, e1, e2⟩ := h3 pos cv hc
    refine ⟨c, e1, k _ _ e2 fun z => ?_⟩
    rw [z, hd] at e2
    unfold CodeO at e2
    cases e2
/-- nothing settled is a table -/
def NoTab (H0 : Hp) : Prop := ∀ b ps, H0 b ≠ some (.tbl ps)
theorem NoTab.upd {H0 : Hp} {p : Addr} {o : HO} (h : NoTab H0) (n : ∀ ps, o ≠ .tbl ps) : NoTab (upd H0 p o) := fun b ps z => by
  by_cases e : b = p
  · rw [e, upd_same] at z
    exact n ps (Option.some.inj z)
  · rw [upd_ne e] at z
    exact h b ps z
theorem Ex.extN {H0 H H' : Hp} (e : Ex H0 H) (n : NoTab H0) (x : ExtN H H') : Ex H0 H' := fun b o h => x b o (e b o h) fun ps z => n b ps (z ▸ h)
theorem Dr.extN {H0 H H' : Hp} {d : Addr} (x : Dr H0 H d) (e : ExtN H H') : Dr H0 H' d := by
  obtain ⟨⟨a, ns, i, j, k, l, h1, h2⟩, n⟩ := x
  exact ⟨⟨a, ns, i, j, k, l, e _ _ h1 (fun ps z => nomatch z), h2⟩, n⟩
/-- the least that a drawing needs -/
theorem Dr.least {H0 H : Hp} {d : Addr} (x : Dr H0 H d) (e : Ex H0 H) : ∃ A0 : Hp, Ex A0 H ∧ Dr A0 H d ∧ NoTab A0 := by
  obtain ⟨⟨a, ns, i, j, k, l, h1, h2, h3⟩, n⟩ := x
  refine ⟨upd (fun _ => none) a (.lst (ns.map V.int)), fun b o h => ?_, ⟨⟨a, ns, i, j, k, l, h1, upd_same, h3⟩, ?_⟩, NoTab.upd (fun b ps z => nomatch z) (fun ps z => nomatch z)⟩
  · by_cases z : b = a
    · rw [z, upd_same] at h
      cases h
      rw [z]
      exact e _ _ h2
    · rw [upd_ne z] at h
      cases h
  · have nda : d ≠ a := fun z => by
      rw [z, h2] at n
      cases n
    rw [upd_ne nda]
theorem Dr.lst {H0 H : Hp} {d : Addr} (x : Dr H0 H d) : ∃ xs, H d = some (.lst xs) := by
  obtain ⟨⟨a, ns, i, j, k, l, h1, _⟩, _⟩ := x
  exact ⟨_, h1⟩
/-- across a drawing step -/
theorem tabs_go {T : List (Addr × Str)} {H0 H H0' H' : Hp} {d : Addr} (t : Tabs T H) (x : Dr H0 H d) (g : Go (· = d) H0 H H0' H') : Tabs T H' := by
  obtain ⟨xs, hd⟩ := x.lst
  exact tabs_but t hd fun b o h n => g.keep b o h n
theorem tabs_new {T : List (Addr × Str)} {H : Hp} {p : Addr} {o : HO} (t : Tabs T H) (h : H p = none) : Tabs T (upd H p o) := t.ext fun b u e => by
  rw [upd_ne (ne_of_none e h)]
  exact e
end Rt

namespace Rt
open PySem PySem.Spec PyProof.Rows L2 LamX
/-- all that is read off the written part of an error's class -/
structure ErrF (K : PySem.W.Frag) (x z word : Str) (C CT CM fI : Addr) (tape : Bool) : Prop where
  g : PySem.W.nsIn K mainGlobals x = some (some (.ref C))
  gT : PySem.W.nsIn K mainGlobals "TapeError" = some (some (.ref CT))
  gM : PySem.W.nsIn K mainGlobals "MissingError" = some (some (.ref CM))
  cls : ∃ nm q N bs bm sn sub ab col dd k0 k1 k2 k3 k5, K.lookup C = some (excClassObj nm q C N bs bm true sn sub ab col dd k0 k1 k2 k3 k5 "ValueError.__new__") ∧ PySem.HandSPX.refsVE bm = true
  nm : ∃ o tk, K.lookup C = some o ∧ (o.slots[2]?).join = some (.str z tk)
  sa : PySem.W.findIn K (.ref C) "__setattr__" = some (some (.builtin "object.__setattr__"))
  exC : PySem.W.subIn K (.ref C) (.type "BaseException") = some true
  tyC : PySem.W.typeIn K (.ref C) = some (.type "type")
  kC : PySem.W.keepIn K (.ref C) = true
  ga : PySem.W.findIn K (.ref C) "__getattribute__" = some (some (.builtin "BaseException.__getattribute__"))
  gg : PySem.W.findIn K (.ref C) "__getattr__" = some none
  hd : PySem.W.hasDictIn K C = true
  ca : PySem.W.findIn K (.ref C) "__class__" = some (some (.builtin "object.__class__"))
  cg : PySem.W.specialIn K (.builtin "object.__class__") "__get__" = some (some (.builtin "getset_descriptor.__get__"))
  ct : PySem.W.takesIn K (.builtin "object.__class__") = some true
  mo : PySem.W.mroIn K C (.type "object") = some true
  rd : PySem.W.readsIn K C (.type "type") = true
  fc : PySem.W.findCls K (.ref C) (.type "type") "__name__" = some (.get (.builtin "getset_descriptor.__get__") (.builtin "type.__name__") (.ref C) (.type "type"))
  nc : PySem.W.findIn K (.ref C) "called" = some none
  iC : PySem.W.findIn K (.ref C) "__init__" = some (some (.ref fI))
  tI : PySem.W.typeIn K (.ref fI) = some (.type "function")
  t1 : PySem.W.subIn K (.ref CT) (.type "BaseException") = some true
  t2 : PySem.W.hasDictIn K CT = true
  t3 : PySem.W.typeIn K (.ref CT) = some (.type "type")
  t4 : PySem.W.subIn K (.ref C) (.ref CT) = some tape
  u1 : PySem.W.subIn K (.ref CM) (.type "BaseException") = some true
  u2 : PySem.W.hasDictIn K CM = true
  u3 : PySem.W.typeIn K (.ref CM) = some (.type "type")
  u4 : PySem.W.subIn K (.ref C) (.ref CM) = some (!tape)
  low : Txt.lower z = word
  sz : z.length ≤ 1000
theorem errF_of {K : PySem.W.Frag} {x z word : Str} {C CT CM fI : Addr} {tape : Bool} {nm q : Str} {N : Addr} {bs bm : List Value} {sn : List Str} {sub : List Value} {ab : Bool} {col : Option Bool} {dd : Option Addr} {k0 k1 k2 k3 k5 : Option Value} {o : Obj} {tk : Tok}
    (g : PySem.W.nsIn K mainGlobals x = some (some (.ref C)))
    (gT : PySem.W.nsIn K mainGlobals "TapeError" = some (some (.ref CT)))
    (gM : PySem.W.nsIn K mainGlobals "MissingError" = some (some (.ref CM)))
    (cls1 : K.lookup C = some (excClassObj nm q C N bs bm true sn sub ab col dd k0 k1 k2 k3 k5 "ValueError.__new__")) (cls2 : PySem.HandSPX.refsVE bm = true)
    (nm1 : K.lookup C = some o) (nm2 : (o.slots[2]?).join = some (.str z tk))
    (sa : PySem.W.findIn K (.ref C) "__setattr__" = some (some (.builtin "object.__setattr__")))
    (exC : PySem.W.subIn K (.ref C) (.type "BaseException") = some true)
    (tyC : PySem.W.typeIn K (.ref C) = some (.type "type"))
    (kC : PySem.W.keepIn K (.ref C) = true)
    (ga : PySem.W.findIn K (.ref C) "__getattribute__" = some (some (.builtin "BaseException.__getattribute__")))
    (gg : PySem.W.findIn K (.ref C) "__getattr__" = some none)
    (hd : PySem.W.hasDictIn K C = true)
    (ca : PySem.W.findIn K (.ref C) "__class__" = some (some (.builtin "object.__class__")))
    (cg : PySem.W.specialIn K (.builtin "object.__class__") "__get__" = some (some (.builtin "getset_descriptor.__get__")))
    (ct : PySem.W.takesIn K (.builtin "object.__class__") = some true)
    (mo : PySem.W.mroIn K C (.type "object") = some true)
    (rd : PySem.W.readsIn K C (.type "type") = true)
    (fc : PySem.W.findCls K (.ref C) (.type "type") "__name__" = some (.get (.builtin "getset_descriptor.__get__") (.builtin "type.__name__") (.ref C) (.type "type")))
    (nc : PySem.W.findIn K (.ref C) "called" = some none)
    (iC : PySem.W.findIn K (.ref C) "__init__" = some (some (.ref fI)))
    (tI : PySem.W.typeIn K (.ref fI) = some (.type "function"))
    (t1 : PySem.W.subIn K (.ref CT) (.type "BaseException") = some true)
    (t2 : PySem.W.hasDictIn K CT = true)
    (t3 : PySem.W.typeIn K (.ref CT) = some (.type "type"))
    (t4 : PySem.W.subIn K (.ref C) (.ref CT) = some tape)
    (u1 : PySem.W.subIn K (.ref CM) (.type "BaseException") = some true)
    (u2 : PySem.W.hasDictIn K CM = true)
    (u3 : PySem.W.typeIn K (.ref CM) = some (.type "type"))
    (u4 : PySem.W.subIn K (.ref C) (.ref CM) = some (!tape))
    (low : Txt.lower z = word)
    (sz : z.length ≤ 1000) : ErrF K x z word C CT CM fI tape := ⟨g, gT, gM, ⟨nm, q, N, bs, bm, sn, sub, ab, col, dd, k0, k1, k2, k3, k5, cls1, cls2⟩, ⟨o, tk, nm1, nm2⟩, sa, exC, tyC, kC, ga, gg, hd, ca, cg, ct, mo, rd, fc, nc, iC, tI, t1, t2, t3, t4, u1, u2, u3, u4, low, sz⟩
section
variable {P : Program} {w : World} {K : PySem.W.Frag} {mg : Str → Option Value} {base h : Heap} {x z word : Str} {C CT CM fI : Addr} {tape : Bool} {k : Nat} {fd : FuncData}
theorem ErrF.xf (F : ErrF K x z word C CT CM fI tape) : XfC K C := ⟨F.ga, F.gg, F.exC, F.hd⟩
theorem ErrF.err (F : ErrF K x z word C CT CM fI tape) (X : K.In h) (G : h.Ns mainGlobals mg) : Err K mg x C z word where
  g := PySem.W.mg_of X G F.g
  oex := ⟨F.cls, F.sa, F.exC, F.tyC, F.kC⟩
  cls := ⟨F.ga, F.gg, F.exC, F.hd, F.ca, F.cg, F.ct, F.mo⟩
  nmd := ⟨F.rd, F.fc, F.tyC, F.nm⟩
  nc := F.nc
  low := F.low
  sz := F.sz
theorem err_mk (F : ErrF K x z word C CT CM fI tape) (X : K.In h) (G : h.Ns mainGlobals mg) (ok : FnOk P w K mg base CX0 k fI fd ["self", "why"] (spInit K)) (b : Binds K fd ["self", "why"] []) : ErrK P w K mg base k x word tape :=
  ⟨C, CT, CM, fI, z, fd, F.err X G, F.iC, F.tI, ok, b, F.xf, PySem.W.mg_of X G F.gT, PySem.W.mg_of X G F.gM, PySem.W.exm_ref F.t1 F.t2 F.t3 F.t4, fun e => PySem.W.exm_ref F.u1 F.u2 F.u3 (by rw [F.u4, e]; rfl)⟩
end
/-- the end of a law whose def (and whose defs named in xs) hold lambdas -/
theorem walkT {l : PySem.W.OpenLaw} {n k : Nat} {q : Program} {loose : List Str} {XP : (Str → Option Value) → Heap → Prop} {YP : World → Heap → Prop} {d : DefRec} {K : Params → PySem.W.Frag} {CX : World → CXT} {x : Str}
    (hn : l.most = some n) (hn2 : n ≤ sizeLine) (hdf : d.params.defaults = []) (hr : Room k callerA) (hY : ∀ (w : World) (h : Heap), YP w h → (K w.params).In h)
    (F : ∀ (w : World) (mg : Str → Option Value) (fa : Addr) (h : Heap), (K w.params).In h → h.Ns mainGlobals mg → mg d.name = some (.ref fa) →
      (∀ (y : Str) (e : DefRec) (c t : Addr), (recsOf q).find? (fun r => r.name == y) = some e → PySem.W.tabIn (K w.params) y = some (c, t) → PySem.W.CodeHd h c t ∧ h.get? t = some { cls := .none, data := .fields #[] }) → LawAtS l w (K w.params) (CX w) k n x mg fa h)
    (hCX : ∀ (w : World) (H : Hp) (s : Shared) (e : Value) (s' : Shared), CX w [] H s (fun _ _ _ => False) e s' → False) :
    PySem.W.WalkO q loose XP YP l.row.toRowW d [] (fun f vs => PySem.call f vs) := by
  refine Att.attach_callB hn hdf fun w s₀ s₁ mg mb fa o pm cd doc a vs ns G Y ho hd hcd hmg hobj hints hlen hbits hg => ?_
  have KX := hY w _ Y
  obtain ⟨fd, cs, sp, hT, nT, C, hb, hsp, hF⟩ := F w mg fa _ KX G.T.g hmg fun y e c t h1 h2 => PySem.W.tab_of G.T KX h1 h2
  exact law_callTs KX G.T.g G.T.b G.T.builtins G.T.nolimit hg hT nT C G.T.bmain hobj hints (Nat.le_trans hlen hn2) hr hF hb (fun H hH hS => hsp H a ns hlen hbits hH hS) fun H e s' => hCX w H s₁ e s'
end Rt

namespace Rt
open PySem PySem.Spec PyProof.Rows L2 LamX
/-! ### a function read off a class of the program and called: C.m(self, ..) -/
/-- m of the class that x names is the function at f -/
structure Off (K : PySem.W.Frag) (mg : Str → Option Value) (x m : Str) (f : Addr) : Prop where
  ex : ∃ C : Addr, mg x = some (.ref C) ∧ PySem.W.specialIn K (.ref C) "__getattribute__" = some (some (.builtin "type.__getattribute__")) ∧ PySem.W.readsIn K C (.type "type") = true ∧ PySem.W.findCls K (.ref C) (.type "type") m = some (.val (.ref f))
section
variable {X : Cx} {x m : Str} {f : Addr} {fd : FuncData} {ps : List Str} {p1 p2 pos : Pos} {e : Expr} {es : List Expr} {t : TA} {k : Nat} {sp : Sp} {pl : Sem Bool}
theorem pe_off (O : Off X.K X.mg x m f) (F : FnOk X.prog X.w X.K X.mg X.base CX0 k f fd ps sp) (hr : Room k X.A) (hg : Gl X x) (hk : PySem.W.keepIn X.K (.ref f) = true) (hb : Binds X.K fd ps []) (ha : PA X (e :: es) t)
    (hc : eval (.Call (.Attribute (.Name x p1) m p2) (e :: es) [] pos) X.env = (do
      let ov ← eval (.Name x p1) X.env
      standAt p2.atName
      let (f, first) ← holding [ov] (getMethod ov m pl)
      callWith pos f first (backTo pos (starEach (e :: es) X.env)) (backToKw pos (keywordEach [] X.env))) := by rfl)
    (hdb : (x == ("__debug__" : Str)) = false := by decide) (he : starEach (e :: es) X.env = (false, eval e X.env) :: starEach es X.env := by rfl) (hpl : (backTo pos (starEach es X.env)).any (·.1) = false := by rfl) :
    PE X (.Call (.Attribute (.Name x p1) m p2) (e :: es) [] pos) (tCall sp [] E0 t) := by
  obtain ⟨C, hm, sG, rd, fc⟩ := O.ex
  refine ⟨fun pins s σ H Q I h => ?_⟩
  refine PySem.W.methodCall_KW (ld_glob I hg hm ?_ hdb) hc
  refine PySem.W.method_cls I.kIn sG (PySem.W.cls_value I.kIn rd fc rfl ?_)
  refine PySem.W.callWith_K (h₀ := X.base) I.ok.mod.kin hk (thn (ha.run pos pins _ σ H _ (I.tok _) h) fun us s1 ⟨vs, H1, I1, r, q⟩ => ⟨I1.kIn, ?_⟩) he hpl
  exact run_fn F hr hb .nil pass0 I1 r q
end
/-! ### BadBytes: an error with its place -/
/-- BadBytes.__init__ -/
def spInitAt (K : PySem.W.Frag) : Sp := fun vs H Q _ => ∃ (a C : Addr) (n : Int) (z : Str), vs = [.ref a, .int n] ∧ n.natAbs < 10 ^ 20 ∧ OexC K C ∧ ClsE K C ∧ Nmd K C z ∧ PySem.W.findIn K (.ref C) "called" = some none ∧ PySem.W.findIn K (.ref C) "at" = some none ∧ z.length ≤ 1000 ∧ H a = some (exo a C none) ∧
  ∀ dx, H dx = none → dx ≠ a → Q .non (upd (upd (upd H dx (exd dx [("called", .str (Txt.lower z))])) a (exo a C (some dx))) dx (exd dx [("at", .int n), ("called", .str (Txt.lower z))]))
/-- BadBytes in flight, its place n -/
structure RaisedA (K : PySem.W.Frag) (mg : Str → Option Value) (x word : Str) (n : Int) (H : Hp) (cls : Value) (d : Option Addr) (H' : Hp) : Prop where
  ex : ∃ (C dd : Addr), mg x = some (.ref C) ∧ cls = .ref C ∧ d = some dd ∧ H dd = none ∧ H' = upd H dd (.xd [("at", .int n), ("called", .str word)]) ∧ XfC K C ∧ PySem.W.findIn K (.ref C) "called" = some none ∧ PySem.W.findIn K (.ref C) "at" = some none
structure ErrA (P : Program) (w : World) (K : PySem.W.Frag) (mg : Str → Option Value) (base : Heap) (k : Nat) (x word : Str) : Prop where
  ex : ∃ (C fI : Addr) (z : Str) (fd : FuncData), Err K mg x C z word ∧ PySem.W.findIn K (.ref C) "__init__" = some (some (.ref fI)) ∧ PySem.W.typeIn K (.ref fI) = some (.type "function") ∧
    FnOk P w K mg base CX0 k fI fd ["self", "at"] (spInitAt K) ∧ Binds K fd ["self", "at"] [] ∧ XfC K C ∧ PySem.W.findIn K (.ref C) "at" = some none
def tRaiseA (K : PySem.W.Frag) (mg : Str → Option Value) (x word : Str) (W : WX) (ta : TA) : TS := fun _ σ H => ta σ H fun vs H1 => ∃ n : Int, vs = [.int n] ∧ n.natAbs < 10 ^ 20 ∧ ∀ cls d H', RaisedA K mg x word n H1 cls d H' → W cls d σ H'
section
variable {X : Cx} {x word : Str} {k : Nat} {e : Expr} {es : List Expr} {ta : TA} {W : WX} {p pos pos2 : Pos}
theorem ps_raiseA (hc : X.calm = true) (T : ErrA X.prog X.w X.K X.mg X.base k x word) (hr : Room (k + 1) X.A) (tk : Takes X W) (hg : Gl X x) (ha : PA X (e :: es) ta) (hdb : (x == ("__debug__" : Str)) = false := by decide)
    (he : starEach (e :: es) X.env = (false, eval e X.env) :: starEach es X.env := by rfl) (hpl : (backTo pos (starEach es X.env)).any (·.1) = false := by rfl) :
    PS X (.Raise (some (.Call (.Name x p) (e :: es) [] pos)) none pos2) (tRaiseA X.K X.mg x word W ta) := by
  obtain ⟨C, fI, z, fd, R, iC, tI, F1, hb, xf, na⟩ := T.ex
  have mk := pmk_oex (X := X) (CX := CX0) (p := p) (pos := pos) R.oex iC tI F1 hr hb .nil pass0 hg R.g (pa_up ha) hdb he hpl
  have rs := ps_raise (pos := pos2) hc tk mk
  refine ⟨fun pins s σ H D I h => rs.run pins s σ H D I ?_⟩
  have imp : ∀ (vs : List V) (H1 : Hp), (∃ n : Int, vs = [.int n] ∧ n.natAbs < 10 ^ 20 ∧ ∀ cls d H', RaisedA X.K X.mg x word n H1 cls d H' → W cls d σ H') →
      vs.length ≤ 1000 ∧ ∀ a, H1 a = none → spInitAt X.K (.ref a :: (vs ++ [])) (upd H1 a (exo a C none))
        (fun v H2 => v = .non ∧ ∃ (d : Addr) (fs : List (Str × V)), H2 a = some (exo a C (some d)) ∧ H2 d = some (exd d fs) ∧ H1 d = none ∧ W (.ref C) (some d) σ (upd (del H2 a) d (.xd fs))) (fun _ _ _ => False) := by
    rintro vs H1 ⟨n, rfl, hn, q⟩
    refine ⟨(by show 1 ≤ 1000; decide), fun a ha => ⟨a, C, n, z, rfl, hn, R.oex, R.cls, R.nmd, R.nc, na, R.sz, upd_same, fun dx hdx nda => ⟨rfl, dx, [("at", .int n), ("called", .str (Txt.lower z))], ?_, upd_same, ?_, ?_⟩⟩⟩
    · rw [upd_ne nda.symm, upd_same]
    · rw [upd_ne nda] at hdx
      exact hdx
    · rw [upd_ne nda] at hdx
      refine q _ _ _ ⟨C, dx, R.g, rfl, rfl, hdx, ?_, xf, R.nc, na⟩
      funext b
      by_cases e1 : b = dx
      · rw [e1, upd_same, upd_same, R.low]
      · rw [upd_ne e1, upd_ne e1]
        by_cases e2 : b = a
        · rw [e2, del_same, ha]
        · rw [del_ne e2, upd_ne e1, upd_ne e2, upd_ne e1, upd_ne e2]
  exact ⟨_, h, imp⟩
end
/-- a def that may let an error out, called with fewer values than it has parameters -/
structure DefXd (P : Program) (w : World) (K : PySem.W.Frag) (mg : Str → Option Value) (base : Heap) (x : Str) (k : Nat) (sp : Sp) (dvs : List V) : Prop where
  ex : ∃ (f : Addr) (fd : FuncData) (ps : List Str) (ds : List Value), mg x = some (.ref f) ∧ FnOk P w K mg base (L2.CX P w) k f fd ps sp ∧ PySem.W.keepIn K (.ref f) = true ∧ Binds K fd ps ds ∧ Vals dvs ds
section
variable {X : Cx} {x : Str} {p pos : Pos} {e : Expr} {es : List Expr} {t : TA} {k : Nat} {sp : Sp} {W : WX} {dvs : List V}
theorem pe_dxd (D : DefXd X.prog X.w X.K X.mg X.base x k sp dvs) (hr : Room k X.A) (hg : Gl X x) (tk : Takes X W) (ha : PA X (e :: es) t) (hdb : (x == ("__debug__" : Str)) = false := by decide)
    (he : starEach (e :: es) X.env = (false, eval e X.env) :: starEach es X.env := by rfl) (hpl : (backTo pos (starEach es X.env)).any (·.1) = false := by rfl) :
    PE X (.Call (.Name x p) (e :: es) [] pos) (tCallSD sp dvs (WE W) t) := by
  obtain ⟨f, fd, ps, ds, h1, h2, h3, h4, h5⟩ := D.ex
  exact pe_callSD h2 hr hg h1 h3 h4 h5 (fun σ => passAt tk σ) ha hdb he hpl
end
/-- a reading with room -/
def tUpE (te : TE) : TE := fun σ H Q => ∃ R : V → Hp → Prop, te σ H R ∧ ∀ v H1, R v H1 → Q v H1
theorem pe_up {X : Cx} {e : Expr} {te : TE} (h : PE X e te) : PE X e (tUpE te) := ⟨fun pins s σ H Q I ⟨R, h', imp⟩ => thn (h.run pins s σ H R I h') fun u s1 ⟨v, H1, I1, r, q⟩ => ⟨v, H1, I1, r, imp v H1 q⟩⟩
/-! ### lists of numbers as data -/
theorem dp_nums {K : PySem.W.Frag} {H : Hp} : ∀ l : List Nat, DpAll K H (nums l) (l.map fun (n : Nat) => PyData.int (n : Int))
  | [] => .nil
  | n :: l => .cons (.int _) (dp_nums l)
theorem depth_ints : ∀ l : List Nat, PyData.depthAll (l.map fun (n : Nat) => PyData.int (n : Int)) = 0
  | [] => rfl
  | n :: l => by
    show max 0 (PyData.depthAll (l.map fun (n : Nat) => PyData.int (n : Int))) = 0
    rw [depth_ints l]
    rfl
theorem sm_ints : ∀ l : List Nat, smAll (l.map fun (n : Nat) => PyData.int (n : Int))
  | [] => True.intro
  | n :: l => ⟨True.intro, sm_ints l⟩
def numsD (l : List Nat) : PyData := .list (l.map fun (n : Nat) => PyData.int (n : Int))
theorem numsD_shaped (l : List Nat) : SeqAt.shaped (numsD l) = true := by
  have h := PySem.W.ke_shaped_ints (l.map fun (n : Nat) => (n : Int))
  rw [List.map_map] at h
  exact h
theorem numsD_eq (l : List Nat) : PyData.eqv (numsD l) (numsD l) = true := SeqAt.eqv_refl _ (SeqAt.canLay_of_shaped (numsD_shaped l))
/-- what is settled, without the tables -/
def clean (H0 : Hp) : Hp := fun b => match H0 b with
  | some (.tbl _) => none
  | o => o
theorem clean_at {H0 : Hp} {p : Addr} {o : HO} (h : H0 p = some o) (n : ∀ ps, o ≠ .tbl ps) : clean H0 p = some o := by
  unfold clean
  rw [h]
  split
  · rename_i ps e
    exact absurd (Option.some.inj e) (n ps)
  · rfl
theorem clean_le {H0 : Hp} {p : Addr} {o : HO} (h : clean H0 p = some o) : H0 p = some o := by
  unfold clean at h
  split at h
  · cases h
  · exact h
theorem clean_no (H0 : Hp) : NoTab (clean H0) := fun b ps z => by
  have h := clean_le z
  unfold clean at z
  rw [h] at z
  cases z
theorem clean_ex {H0 H : Hp} (e : Ex H0 H) : Ex (clean H0) H := fun b o h => e b o (clean_le h)
theorem clean_dr {H0 H : Hp} {d : Addr} (x : Dr H0 H d) : Dr (clean H0) H d := by
  obtain ⟨⟨a, ns, i, j, k, l, h1, h2, h3⟩, n⟩ := x
  refine ⟨⟨a, ns, i, j, k, l, h1, clean_at h2 (fun ps z => nomatch z), h3⟩, ?_⟩
  cases e : clean H0 d with
  | none => rfl
  | some o =>
    have := clean_le e
    rw [n] at this
    cases this
/-- all that is read off an error's class, whatever else it is under -/
structure ErrG (K : PySem.W.Frag) (x z word : Str) (C fI : Addr) : Prop where
  g : PySem.W.nsIn K mainGlobals x = some (some (.ref C))
  cls : ∃ nm q N bs bm sn sub ab col dd k0 k1 k2 k3 k5, K.lookup C = some (excClassObj nm q C N bs bm true sn sub ab col dd k0 k1 k2 k3 k5 "ValueError.__new__") ∧ PySem.HandSPX.refsVE bm = true
  nm : ∃ o tk, K.lookup C = some o ∧ (o.slots[2]?).join = some (.str z tk)
  sa : PySem.W.findIn K (.ref C) "__setattr__" = some (some (.builtin "object.__setattr__"))
  exC : PySem.W.subIn K (.ref C) (.type "BaseException") = some true
  tyC : PySem.W.typeIn K (.ref C) = some (.type "type")
  kC : PySem.W.keepIn K (.ref C) = true
  ga : PySem.W.findIn K (.ref C) "__getattribute__" = some (some (.builtin "BaseException.__getattribute__"))
  gg : PySem.W.findIn K (.ref C) "__getattr__" = some none
  hd : PySem.W.hasDictIn K C = true
  ca : PySem.W.findIn K (.ref C) "__class__" = some (some (.builtin "object.__class__"))
  cg : PySem.W.specialIn K (.builtin "object.__class__") "__get__" = some (some (.builtin "getset_descriptor.__get__"))
  ct : PySem.W.takesIn K (.builtin "object.__class__") = some true
  mo : PySem.W.mroIn K C (.type "object") = some true
  rd : PySem.W.readsIn K C (.type "type") = true
  fc : PySem.W.findCls K (.ref C) (.type "type") "__name__" = some (.get (.builtin "getset_descriptor.__get__") (.builtin "type.__name__") (.ref C) (.type "type"))
  nc : PySem.W.findIn K (.ref C) "called" = some none
  iC : PySem.W.findIn K (.ref C) "__init__" = some (some (.ref fI))
  tI : PySem.W.typeIn K (.ref fI) = some (.type "function")
  se : PySem.W.subIn K (.ref C) (.ref C) = some true
  low : Txt.lower z = word
  sz : z.length ≤ 1000
theorem errG_of {K : PySem.W.Frag} {x z word : Str} {C fI : Addr} {nm q : Str} {N : Addr} {bs bm : List Value} {sn : List Str} {sub : List Value} {ab : Bool} {col : Option Bool} {dd : Option Addr} {k0 k1 k2 k3 k5 : Option Value} {o : Obj} {tk : Tok}
    (g : PySem.W.nsIn K mainGlobals x = some (some (.ref C)))
    (cls1 : K.lookup C = some (excClassObj nm q C N bs bm true sn sub ab col dd k0 k1 k2 k3 k5 "ValueError.__new__")) (cls2 : PySem.HandSPX.refsVE bm = true)
    (nm1 : K.lookup C = some o) (nm2 : (o.slots[2]?).join = some (.str z tk))
    (sa : PySem.W.findIn K (.ref C) "__setattr__" = some (some (.builtin "object.__setattr__")))
    (exC : PySem.W.subIn K (.ref C) (.type "BaseException") = some true)
    (tyC : PySem.W.typeIn K (.ref C) = some (.type "type"))
    (kC : PySem.W.keepIn K (.ref C) = true)
    (ga : PySem.W.findIn K (.ref C) "__getattribute__" = some (some (.builtin "BaseException.__getattribute__")))
    (gg : PySem.W.findIn K (.ref C) "__getattr__" = some none)
    (hd : PySem.W.hasDictIn K C = true)
    (ca : PySem.W.findIn K (.ref C) "__class__" = some (some (.builtin "object.__class__")))
    (cg : PySem.W.specialIn K (.builtin "object.__class__") "__get__" = some (some (.builtin "getset_descriptor.__get__")))
    (ct : PySem.W.takesIn K (.builtin "object.__class__") = some true)
    (mo : PySem.W.mroIn K C (.type "object") = some true)
    (rd : PySem.W.readsIn K C (.type "type") = true)
    (fc : PySem.W.findCls K (.ref C) (.type "type") "__name__" = some (.get (.builtin "getset_descriptor.__get__") (.builtin "type.__name__") (.ref C) (.type "type")))
    (nc : PySem.W.findIn K (.ref C) "called" = some none)
    (iC : PySem.W.findIn K (.ref C) "__init__" = some (some (.ref fI)))
    (tI : PySem.W.typeIn K (.ref fI) = some (.type "function"))
    (se : PySem.W.subIn K (.ref C) (.ref C) = some true)
    (low : Txt.lower z = word)
    (sz : z.length ≤ 1000) : ErrG K x z word C fI := ⟨g, ⟨nm, q, N, bs, bm, sn, sub, ab, col, dd, k0, k1, k2, k3, k5, cls1, cls2⟩, ⟨o, tk, nm1, nm2⟩, sa, exC, tyC, kC, ga, gg, hd, ca, cg, ct, mo, rd, fc, nc, iC, tI, se, low, sz⟩
section
variable {P : Program} {w : World} {K : PySem.W.Frag} {mg : Str → Option Value} {base h : Heap} {x z word : Str} {C fI CT : Addr} {k : Nat} {fd : FuncData}
theorem ErrG.xf (F : ErrG K x z word C fI) : XfC K C := ⟨F.ga, F.gg, F.exC, F.hd⟩
theorem ErrG.err (F : ErrG K x z word C fI) (X : K.In h) (G : h.Ns mainGlobals mg) : Err K mg x C z word where
  g := PySem.W.mg_of X G F.g
  oex := ⟨F.cls, F.sa, F.exC, F.tyC, F.kC⟩
  cls := ⟨F.ga, F.gg, F.exC, F.hd, F.ca, F.cg, F.ct, F.mo⟩
  nmd := ⟨F.rd, F.fc, F.tyC, F.nm⟩
  nc := F.nc
  low := F.low
  sz := F.sz
theorem ErrG.self (F : ErrG K x z word C fI) : PySem.W.exmOne K (.ref C) (.ref C) = some true := PySem.W.exm_ref F.exC F.hd F.tyC F.se
theorem errA_mk (F : ErrG K x z word C fI) (na : PySem.W.findIn K (.ref C) "at" = some none) (X : K.In h) (G : h.Ns mainGlobals mg) (ok : FnOk P w K mg base CX0 k fI fd ["self", "at"] (spInitAt K)) (b : Binds K fd ["self", "at"] []) : ErrA P w K mg base k x word :=
  ⟨C, fI, z, fd, F.err X G, F.iC, F.tI, ok, b, F.xf, na⟩
end
end Rt

namespace Rt
open PySem PySem.Spec PyProof.Rows L2 RZ
/-! ### events: what is good -/
def withinV (v : V) (lo hi : Int) : Bool := match v with
  | .int z => decide (lo ≤ z) && decide (z ≤ hi)
  | _ => false
def signsS : Str := "abcdefghijklmnopqrstuvwxyz0123456789 "
def textOk (v : V) : Bool := match v with
  | .str s => decide (s.length ≤ 12) && s.cps.toList.all (fun c => decide (c ∈ signsS.cps.toList))
  | _ => false
def wordB (w : Str) : Option (List (Int × Int)) :=
  if w = "on" then some [(0, 15), (0, 127), (1, 127)] else if w = "off" then some [(0, 15), (0, 127), (0, 127)] else if w = "knob" then some [(0, 15), (0, 127), (0, 127)] else if w = "voice" then some [(0, 15), (0, 127)] else none
def withinAll : List V → List (Int × Int) → Bool
  | [], [] => true
  | v :: vs, b :: bs => withinV v b.1 b.2 && withinAll vs bs
  | _, _ => false
def markOk : List V → Bool
  | [x] => textOk x
  | _ => false
def wordOk (o : Option (List (Int × Int))) (r : List V) : Bool := match o with
  | some bs => withinAll r bs
  | none => false
def thingOk : List V → Bool
  | .str w :: r => if w = "mark" then markOk r else wordOk (wordB w) r
  | _ => false
theorem thing_mark (r : List V) : thingOk (.str "mark" :: r) = markOk r := by
  show (if ("mark" : Str) = "mark" then markOk r else wordOk (wordB "mark") r) = _
  rw [if_pos rfl]
theorem thing_word {z : Str} (h : ¬ z = "mark") (r : List V) : thingOk (.str z :: r) = wordOk (wordB z) r := by
  show (if z = "mark" then markOk r else wordOk (wordB z) r) = _
  rw [if_neg h]
theorem wordB_len {z : Str} {bs : List (Int × Int)} (hb : wordB z = some bs) : bs.length ≤ 10 := by
  unfold wordB at hb
  split at hb
  · cases hb; decide
  split at hb
  · cases hb; decide
  split at hb
  · cases hb; decide
  split at hb
  · cases hb; decide
  · cases hb
def isEv : List V → Bool
  | t :: r => withinV t 0 999999 && thingOk r
  | [] => false
/-- a number or a text of moderate size -/
def Scal (v : V) : Prop := (∃ z, v = .int z) ∨ ∃ s : Str, v = .str s ∧ s.length ≤ 1000
theorem withinAll_len : ∀ (vs : List V) (bs : List (Int × Int)), withinAll vs bs = true → vs.length = bs.length
  | [], [], _ => rfl
  | v :: vs, b :: bs, h => by
    have h' : (withinV v b.1 b.2 && withinAll vs bs) = true := h
    rw [Bool.and_eq_true] at h'
    rw [List.length_cons, List.length_cons, withinAll_len vs bs h'.2]
  | [], b :: bs, h => nomatch h
  | v :: vs, [], h => nomatch h
theorem withinAll_zip : ∀ (vs : List V) (bs : List (Int × Int)), vs.length = bs.length → withinAll vs bs = (vs.zip bs).all fun p => withinV p.1 p.2.1 p.2.2
  | [], [], _ => rfl
  | v :: vs, b :: bs, h => by
    show (withinV v b.1 b.2 && withinAll vs bs) = (withinV v b.1 b.2 && (vs.zip bs).all _)
    rw [withinAll_zip vs bs (by simpa using h)]
  | [], b :: bs, h => by simp at h
  | v :: vs, [], h => by simp at h
/-! ### `in` of a written dict with text keys, for numbers too -/
theorem mapOfM_K {prog : Program} {w : World} {K : PySem.W.Frag} {h : Heap} {a : Addr} {es : Array DictEntry} {n : Nat} (X : K.In h) (hl : K.lookup a = some ⟨.type "dict", none, .dict es n, #[]⟩) (hk : PySem.W.KeysLit w.params es.toList) :
    h.MapOf (mixKind prog w) a (fun k => findBy keyIs es k) :=
  ⟨_, es, n, X _ _ hl, ⟨rfl, rfl, rfl⟩, rfl, fun e he => by
    obtain ⟨x, t, e1, e2⟩ := hk.all e (Array.mem_toList_iff.mpr he)
    exact ⟨.inr x, by rw [e1]; exact keyIs_str x t, e2⟩, fun _ => rfl⟩
theorem findM_int {P : Params} {es : Array DictEntry} (hk : PySem.W.KeysLit P es.toList) (i : Int) : findBy keyIs es (.inl i) = none := by
  obtain ⟨l⟩ := es
  unfold findBy
  rw [List.find?_toArray]
  have : l.find? (fun d => keyIs (.inl i) d.key) = none := List.find?_eq_none.mpr fun e he => by
    obtain ⟨x, t, e1, _⟩ := hk.all e he
    rw [e1]
    simp [keyIs, Value.isInt]
  rw [this]
  rfl
theorem findM_str {es : Array DictEntry} (x : Str) : findBy keyIs es (.inr x) = findBy Value.isStrOf es x := rfl
def rInM (K : PySem.W.Frag) (w : World) : R2 := fun x y H Q => ∃ d es n, y = .ref d ∧ K.lookup d = some ⟨.type "dict", none, .dict es n, #[]⟩ ∧ PySem.W.KeysLit w.params es.toList ∧ (d == sysModules) = false ∧
  ((∃ i, x = .int i ∧ Q (.bl false) H) ∨ ∃ z r, x = .str z ∧ PySem.W.nsIn K d z = some r ∧ Q (.bl r.isSome) H)
theorem op_inM {X : Cx} : OpR X (compareOp .In) (rInM X.K X.w) := by
  intro pins s σ H x y v u Q I rx ry h
  obtain ⟨d, es, n, rfl, hl, hk, low, h⟩ := h
  cases ry
  have hm := mapOfM_K (prog := X.prog) (w := X.w) I.kIn hl hk
  rcases h with ⟨i, rfl, q⟩ | ⟨z, r, rfl, e, q⟩
  · obtain ⟨t, rfl⟩ := rx
    refine wpAny_in_of (knd := mixKind X.prog X.w) (k := .inl i) (keyIs_int i t) low hm ?_
    rw [findM_int hk]
    exact ⟨.bl false, H, I.tok _, rfl, q⟩
  · obtain ⟨t, rfl⟩ := rx
    refine wpAny_in_of (knd := mixKind X.prog X.w) (k := .inr z) (keyIs_str z t) low hm ?_
    rw [findM_str, PySem.W.find_K hl e]
    exact ⟨.bl r.isSome, H, I.tok _, rfl, q⟩
/-! ### the program's table of bounds -/
/-- at v: a written tuple of pairs -/
def PrsK (K : PySem.W.Frag) (v : Addr) (bs : List (Int × Int)) : Prop := ∃ ps : List Addr, (∀ H, SqT K H v (ps.map V.ref)) ∧ ps.length = bs.length ∧ ∀ (i : Nat) (p : Addr) (b : Int × Int), ps[i]? = some p → bs[i]? = some b → ∀ H, SqT K H p [.int b.1, .int b.2]
structure BoundsK (K : PySem.W.Frag) (w : World) (d : Addr) : Prop where
  at_ : ∃ es n, K.lookup d = some ⟨.type "dict", none, .dict es n, #[]⟩ ∧ PySem.W.KeysLit w.params es.toList ∧ (d == sysModules) = false
  no : ∀ z, wordB z = none → PySem.W.nsIn K d z = some none
  yes : ∀ z bs, wordB z = some bs → ∃ v, PySem.W.nsIn K d z = some (some (.ref v)) ∧ PrsK K v bs
theorem sqt_K {K : PySem.W.Frag} {v : Addr} {od : Option Addr} {xs : List V} {its : Array Value} {n : Nat} {sl : Array (Option Value)} (l : K.lookup v = some ⟨.type "tuple", od, .seq its n, sl⟩) (hz : its.size ≤ 1000) (r : Vals xs its.toList) (H : Hp) : SqT K H v xs :=
  .inr ⟨_, its, n, l, rfl, rfl, mem_sz (Nat.le_trans hz (by decide)), r⟩
theorem pr_K {K : PySem.W.Frag} {v : Addr} {od : Option Addr} {a b : Int} {t u : Tok} {n : Nat} {sl : Array (Option Value)} (l : K.lookup v = some ⟨.type "tuple", od, .seq #[.int a t, .int b u] n, sl⟩) (H : Hp) : SqT K H v [.int a, .int b] :=
  sqt_K (xs := [.int a, .int b]) l (by show 2 ≤ 1000; decide) (.cons ⟨_, rfl⟩ (.cons ⟨_, rfl⟩ .nil)) H
theorem prs3_K {K : PySem.W.Frag} {v p1 p2 p3 : Addr} {od : Option Addr} {n : Nat} {sl : Array (Option Value)} {b1 b2 b3 : Int × Int} (l : K.lookup v = some ⟨.type "tuple", od, .seq #[.ref p1, .ref p2, .ref p3] n, sl⟩) (h1 : ∀ H, SqT K H p1 [.int b1.1, .int b1.2]) (h2 : ∀ H, SqT K H p2 [.int b2.1, .int b2.2]) (h3 : ∀ H, SqT K H p3 [.int b3.1, .int b3.2]) :
    PrsK K v [b1, b2, b3] := ⟨[p1, p2, p3], fun H => sqt_K (xs := [V.ref p1, V.ref p2, V.ref p3]) l (by show 3 ≤ 1000; decide) (.cons rfl (.cons rfl (.cons rfl .nil))) H, rfl, fun i p b hp hb => by
      match i, hp, hb with
      | 0, hp, hb => cases hp; cases hb; exact h1
      | 1, hp, hb => cases hp; cases hb; exact h2
      | 2, hp, hb => cases hp; cases hb; exact h3
      | i + 3, hp, hb => simp at hp⟩
theorem prs2_K {K : PySem.W.Frag} {v p1 p2 : Addr} {od : Option Addr} {n : Nat} {sl : Array (Option Value)} {b1 b2 : Int × Int} (l : K.lookup v = some ⟨.type "tuple", od, .seq #[.ref p1, .ref p2] n, sl⟩) (h1 : ∀ H, SqT K H p1 [.int b1.1, .int b1.2]) (h2 : ∀ H, SqT K H p2 [.int b2.1, .int b2.2]) :
    PrsK K v [b1, b2] := ⟨[p1, p2], fun H => sqt_K (xs := [V.ref p1, V.ref p2]) l (by show 2 ≤ 1000; decide) (.cons rfl (.cons rfl .nil)) H, rfl, fun i p b hp hb => by
      match i, hp, hb with
      | 0, hp, hb => cases hp; cases hb; exact h1
      | 1, hp, hb => cases hp; cases hb; exact h2
      | i + 2, hp, hb => simp at hp⟩
theorem bounds_mk {K : PySem.W.Frag} {w : World} {d : Addr} {n : Nat} {h1 h2 h3 h4 : Int} {t1 t2 t3 t4 : Tok} {v1 v2 v3 v4 : Addr}
    (l : K.lookup d = some ⟨.type "dict", none, .dict #[⟨h1, .str "on" t1, .ref v1⟩, ⟨h2, .str "off" t2, .ref v2⟩, ⟨h3, .str "knob" t3, .ref v3⟩, ⟨h4, .str "voice" t4, .ref v4⟩] n, #[]⟩)
    (k1 : h1 = PyData.keyHash w.params "on") (k2 : h2 = PyData.keyHash w.params "off") (k3 : h3 = PyData.keyHash w.params "knob") (k4 : h4 = PyData.keyHash w.params "voice") (low : (d == sysModules) = false)
    (n1 : PySem.W.nsIn K d "on" = some (some (.ref v1))) (n2 : PySem.W.nsIn K d "off" = some (some (.ref v2))) (n3 : PySem.W.nsIn K d "knob" = some (some (.ref v3))) (n4 : PySem.W.nsIn K d "voice" = some (some (.ref v4)))
    (p1 : PrsK K v1 [(0, 15), (0, 127), (1, 127)]) (p2 : PrsK K v2 [(0, 15), (0, 127), (0, 127)]) (p3 : PrsK K v3 [(0, 15), (0, 127), (0, 127)]) (p4 : PrsK K v4 [(0, 15), (0, 127)]) : BoundsK K w d where
  at_ := ⟨_, n, l, ⟨⟨_, _, rfl, k1⟩, ⟨_, _, rfl, k2⟩, ⟨_, _, rfl, k3⟩, ⟨_, _, rfl, k4⟩, True.intro⟩, low⟩
  no := fun z hz => by
    unfold wordB at hz
    by_cases e1 : z = "on"
    · rw [if_pos e1] at hz; cases hz
    rw [if_neg e1] at hz
    by_cases e2 : z = "off"
    · rw [if_pos e2] at hz; cases hz
    rw [if_neg e2] at hz
    by_cases e3 : z = "knob"
    · rw [if_pos e3] at hz; cases hz
    rw [if_neg e3] at hz
    by_cases e4 : z = "voice"
    · rw [if_pos e4] at hz; cases hz
    have ne : ∀ (x : Str) (t : Tok), z ≠ x → (Value.str x t).isStr z = false := fun x t h => by
      rw [PySem.W.isStr_of]
      cases e : Value.isStrOf z (.str x t) with
      | false => rfl
      | true =>
        obtain ⟨t', e'⟩ := Value.isStrOf_shape e
        injection e' with e1 _
        exact absurd e1.symm h
    unfold PySem.W.nsIn
    rw [l]
    simp only [List.find?_cons, ne _ _ e1, ne _ _ e2, ne _ _ e3, ne _ _ e4, List.find?_nil]
    rfl
  yes := fun z bs hz => by
    unfold wordB at hz
    by_cases e1 : z = "on"
    · rw [if_pos e1] at hz; cases hz; rw [e1]; exact ⟨v1, n1, p1⟩
    rw [if_neg e1] at hz
    by_cases e2 : z = "off"
    · rw [if_pos e2] at hz; cases hz; rw [e2]; exact ⟨v2, n2, p2⟩
    rw [if_neg e2] at hz
    by_cases e3 : z = "knob"
    · rw [if_pos e3] at hz; cases hz; rw [e3]; exact ⟨v3, n3, p3⟩
    rw [if_neg e3] at hz
    by_cases e4 : z = "voice"
    · rw [if_pos e4] at hz; cases hz; rw [e4]; exact ⟨v4, n4, p4⟩
    rw [if_neg e4] at hz
    cases hz
/-! ### comprehensions whose items are values and whose items' making changes nothing settled -/
/-- behind i items: the list at D holds f 0 .. f (i - 1) -/
def LcP (D : Addr) (H0 H : Hp) (f : Nat → V) (i : Nat) (H' : Hp) : Prop := H' D = some (.lst ((List.range i).map f)) ∧ Go (fun _ => False) H0 H H0 H'
theorem LcP.start {D : Addr} {H0 H H1 : Hp} {f : Nat → V} (g : Go (fun _ => False) H0 H H0 H1) (h : H1 D = none) : LcP D H0 H f 0 (upd H1 D (.lst [])) := ⟨upd_same, g.lay _ h⟩
theorem LcP.step {D : Addr} {H0 H H1 H' H2 : Hp} {f : Nat → V} {i : Nat} {y : V} (g1 : Go (fun _ => False) H0 H H0 H1) (hD : H1 D = none) (p : LcP D H0 H f i H') (hi : i ≤ 100000) (g : Go (fun _ => False) H0 H' H0 H2) (e : y = f i) :
    ∃ acc, H2 D = some (.lst acc) ∧ acc.length < sizeLine ∧ LcP D H0 H f (i + 1) (upd H2 D (.lst (acc ++ [y]))) := by
  refine ⟨_, g.keep _ _ p.1 (fun z => z), mem_lt (by rw [List.length_map, List.length_range]; omega), ?_, (p.2.then g).turn _ (g1.fresh hD) (g1.fresh0 hD)⟩
  rw [upd_same, List.range_succ, List.map_append, e]
  rfl
theorem map_range {α β : Type} (l : List α) (g : α → β) (f : Nat → β) (h : ∀ i a, l[i]? = some a → f i = g a) : (List.range l.length).map f = l.map g := by
  refine List.ext_getElem? fun i => ?_
  rw [List.getElem?_map, List.getElem?_map]
  by_cases hi : i < l.length
  · rw [List.getElem?_range hi, List.getElem?_eq_getElem hi]
    show some (f i) = some (g l[i])
    rw [h i _ (List.getElem?_eq_getElem hi)]
  · rw [List.getElem?_eq_none (l := l) (by omega), List.getElem?_eq_none (l := List.range l.length) (by rw [List.length_range]; omega)]
    rfl
/-- the signs of a text -/
theorem lc_str {x : Str} {g : TG} {tt : TT} {te : TE} {vs : List Nat} {σ : L2.St} {H1 : Hp} {D : Addr} {Qd : Hp → Prop} (Pv : Nat → Hp → Prop) (h0 : Pv 0 (upd H1 D (.lst [])))
    (hs : ∀ i c H, x.cps.toList[i]? = some c → Pv i H → g (.str ⟨#[c]⟩) (wipe σ vs) H fun σ2 H2 => wipe σ2 vs = wipe σ vs ∧ tt σ2 H2 fun b H3 =>
      if b = true then te σ2 H3 fun y H4 => ∃ acc, H4 D = some (.lst acc) ∧ acc.length < sizeLine ∧ Pv (i + 1) (upd H4 D (.lst (acc ++ [y]))) else Pv (i + 1) H3) (hd : ∀ H, Pv x.cps.toList.length H → Qd H) :
    ∃ W : Nat → Nat → Hp → Prop, (∃ m, W 0 m (upd H1 D (.lst []))) ∧ ∀ i m H, W i m H →
      ((Its x).stop i H ∧ Qd H) ∨ ((Its x).go i H ∧ ∃ Nx : Hp → Prop, (∀ H', Nx H' → ∃ m', m' < m ∧ W (i + 1) m' H') ∧ ∀ y H', (Its x).yld i H y H' → g y (wipe σ vs) H' fun σ2 H2 => wipe σ2 vs = wipe σ vs ∧ tt σ2 H2 fun b H3 =>
        if b = true then te σ2 H3 fun y H4 => ∃ acc, H4 D = some (.lst acc) ∧ acc.length < sizeLine ∧ Nx (upd H4 D (.lst (acc ++ [y]))) else Nx H3) := by
  refine ⟨fun i m H => m = x.cps.toList.length - i ∧ i ≤ x.cps.toList.length ∧ Pv i H, ⟨x.cps.toList.length, by simp, Nat.zero_le _, h0⟩, ?_⟩
  rintro i m H ⟨rfl, hi, p⟩
  have el : x.cps.toList.length = x.cps.size := Array.length_toList
  by_cases hlt : i < x.cps.toList.length
  · refine .inr ⟨(by show i < x.cps.size; omega), Pv (i + 1), fun H' p' => ⟨x.cps.toList.length - (i + 1), by omega, rfl, hlt, p'⟩, fun y H' hy => ?_⟩
    obtain ⟨rfl, c, hc, rfl⟩ := hy
    exact hs i c _ (by rw [Array.getElem?_toList]; exact hc) p
  · have e : i = x.cps.toList.length := by omega
    subst e
    exact .inl ⟨(by show x.cps.size ≤ _; omega), hd H p⟩
/-- zip of two tuples of like length -/
theorem lc_zipT {K : PySem.W.Frag} {a b : Addr} {xs ys : List V} {g : TG} {tt : TT} {te : TE} {vs : List Nat} {σ : L2.St} {H1 : Hp} {D : Addr} {Qd : Hp → Prop} (hl : xs.length = ys.length) (Pv : Nat → Hp → Prop) (h0 : Pv 0 (upd H1 D (.lst []))) (hq : ∀ i H, Pv i H → SqT K H a xs ∧ SqT K H b ys)
    (hs : ∀ (i : Nat) (x y : V) (T : Addr) (H : Hp), xs[i]? = some x → ys[i]? = some y → Pv i H → H T = none → g (.ref T) (wipe σ vs) (upd H T (.tup [x, y])) fun σ2 H2 => wipe σ2 vs = wipe σ vs ∧ tt σ2 H2 fun b H3 =>
      if b = true then te σ2 H3 fun y H4 => ∃ acc, H4 D = some (.lst acc) ∧ acc.length < sizeLine ∧ Pv (i + 1) (upd H4 D (.lst (acc ++ [y]))) else Pv (i + 1) H3) (hd : ∀ H, Pv xs.length H → Qd H) :
    ∃ W : Nat → Nat → Hp → Prop, (∃ m, W 0 m (upd H1 D (.lst []))) ∧ ∀ i m H, W i m H →
      ((ItzT K a b).stop i H ∧ Qd H) ∨ ((ItzT K a b).go i H ∧ ∃ Nx : Hp → Prop, (∀ H', Nx H' → ∃ m', m' < m ∧ W (i + 1) m' H') ∧ ∀ y H', (ItzT K a b).yld i H y H' → g y (wipe σ vs) H' fun σ2 H2 => wipe σ2 vs = wipe σ vs ∧ tt σ2 H2 fun b H3 =>
        if b = true then te σ2 H3 fun y H4 => ∃ acc, H4 D = some (.lst acc) ∧ acc.length < sizeLine ∧ Nx (upd H4 D (.lst (acc ++ [y]))) else Nx H3) := by
  refine ⟨fun i m H => m = xs.length - i ∧ i ≤ xs.length ∧ Pv i H, ⟨xs.length, by simp, Nat.zero_le _, h0⟩, ?_⟩
  rintro i m H ⟨rfl, hi, p⟩
  obtain ⟨qx, qy⟩ := hq i H p
  by_cases hlt : i < xs.length
  · have hx : xs[i]? = some xs[i] := List.getElem?_eq_getElem hlt
    have hlt2 : i < ys.length := by omega
    have hy : ys[i]? = some ys[i] := List.getElem?_eq_getElem hlt2
    refine .inr ⟨⟨xs, ys, _, _, qx, qy, hx, hy⟩, Pv (i + 1), fun H' p' => ⟨xs.length - (i + 1), by omega, rfl, hlt, p'⟩, fun v H' yl => ?_⟩
    obtain ⟨T, x, y, rfl, hT, rfl, fx, fy⟩ := yl
    exact hs i x y T H (fx xs qx) (fy ys qy) p hT
  · have e : i = xs.length := by omega
    subst e
    exact .inl ⟨⟨xs, ys, qx, qy, .inl (Nat.le_refl _)⟩, hd H p⟩
theorem upPut {G : Hp} {p b : Addr} {o u : HO} (n : G p = none) (h : G b = some u) : upd G p o b = some u := by
  rw [upd_ne (ne_of_none h n)]
  exact h
/-- a step from a larger settled heap is one from the smaller -/
theorem Go.down {E0 F0 E F G : Hp} (a : Go (fun _ => False) E0 E E0 F) (x : Ex E0 F0) (b : Go (fun _ => False) F0 F F0 G) : Go (fun _ => False) E0 E E0 G where
  up := Ex.refl _
  inn := x.trans b.inn
  new := fun _ _ h => h
  keep := fun c o h n => b.keep c o (a.keep c o h n) n
  there := fun c h => b.there c (a.there c h)
end Rt

namespace Rt
open PySem PySem.Spec PyProof.Rows L2 RZ TL
/-! ### a text, several times -/
theorem fold_rep (a : Array Nat) : ∀ (n : Nat) (acc : Array Nat), ((List.replicate n a).foldl (· ++ ·) acc).size = acc.size + a.size * n ∧ ∀ c ∈ ((List.replicate n a).foldl (· ++ ·) acc).toList, c ∈ acc.toList ∨ c ∈ a.toList
  | 0, acc => ⟨by simp, fun c h => .inl h⟩
  | n + 1, acc => by
    have ih := fold_rep a n (acc ++ a)
    rw [List.replicate_succ, List.foldl_cons]
    refine ⟨by rw [ih.1, Array.size_append, Nat.mul_succ]; omega, fun c h => ?_⟩
    rcases ih.2 c h with h | h
    · rw [Array.toList_append] at h
      exact List.mem_append.mp h
    · exact .inr h
def rRepS : R2 := fun x y H Q => ∃ (z : Str) (n : Nat), x = .str z ∧ y = .int (n : Int) ∧ z.length ≤ 1000 ∧ n ≤ 1000 ∧ ∀ w : Str, w.length = z.length * n → (∀ c ∈ w.cps.toList, c ∈ z.cps.toList) → Q (.str w) H
theorem op_repS {X : Cx} : OpR X (binaryOp .Mult) rRepS := by
  intro pins s σ H x y v u Q I rx ry h
  obtain ⟨z, n, rfl, rfl, hz, hn, q⟩ := h
  obtain ⟨t, rfl⟩ := rx
  obtain ⟨t2, rfl⟩ := ry
  have lim : z.length * n ≤ 1000 * 1000 := Nat.mul_le_mul hz hn
  refine PySem.P.mul_str ?_ (fun h1 _ => ?_) (fun h1 _ => ?_) ?_
  · rw [decide_eq_false (by omega), decide_eq_false (by omega)]
    rfl
  · have h2 : (1000 : Int) ≤ (2 ^ 63 - 1) / (n : Int) := by
      rw [Int.le_ediv_iff_mul_le (by omega)]
      omega
    omega
  · rw [show (n : Int).toNat = n by omega]
    exact decide_eq_false fun h => by
      have := mem_sz lim
      omega
  · by_cases h1 : (n : Int) < 1
    · rw [if_pos h1]
      have n0 : n = 0 := by omega
      exact ⟨(by decide), .str Str.empty, H, I.tok _, ⟨_, rfl⟩, q Str.empty (by rw [n0, Nat.mul_zero]; rfl) (fun c h => nomatch h)⟩
    · rw [if_neg h1]
      by_cases h2 : ((n : Int) == 1 || z.length == 0) = true
      · rw [if_pos h2]
        refine ⟨.str z, H, I, ⟨_, rfl⟩, q z ?_ fun c h => h⟩
        rcases Bool.or_eq_true_iff.mp h2 with h | h
        · have : n = 1 := by have := beq_iff_eq.mp h; omega
          rw [this, Nat.mul_one]
        · have h := beq_iff_eq.mp h
          rw [h, Nat.zero_mul]
      · rw [if_neg h2]
        have f := fold_rep z.cps n #[]
        refine ⟨?_, .str _, H, I.tok _, ⟨_, rfl⟩, q _ ?_ fun c h => ?_⟩
        · show Array.size _ ≤ sizeLine
          rw [show (n : Int).toNat = n by omega, f.1]
          refine mem_sz (Nat.le_trans ?_ lim)
          show 0 + z.cps.size * n ≤ z.cps.size * n
          omega
        · show Array.size _ = _
          rw [show (n : Int).toNat = n by omega, f.1]
          show 0 + z.cps.size * n = z.cps.size * n
          omega
        · rw [show (n : Int).toNat = n by omega] at h
          exact (f.2 c h).elim (fun h => nomatch h) fun h => h
theorem at_n {α : Type} {xs : List α} {z : Int} {j : Nat} {v : α} (e : z = (j : Int)) (h : xs[j]? = some v) : atI xs z = some v := by
  subst e
  have hl := (List.getElem?_eq_some_iff.mp h).1
  unfold atI ixN
  rw [if_pos (by omega), if_pos (by omega)]
  show xs[(j : Int).toNat]? = some v
  rw [Int.toNat_natCast, h]
theorem joinL_mem : ∀ (parts : List (List Nat)) (c : Nat), c ∈ joinL [] parts → ∃ p ∈ parts, c ∈ p
  | [], c, h => nomatch h
  | [p], c, h => ⟨p, .head _, h⟩
  | p :: q :: r, c, h => by
    have h' : c ∈ p ++ ([] ++ joinL [] (q :: r)) := h
    rcases List.mem_append.mp h' with h1 | h1
    · exact ⟨p, .head _, h1⟩
    · obtain ⟨x, hx, hc⟩ := joinL_mem (q :: r) c h1
      exact ⟨x, .tail _ hx, hc⟩
theorem joinL_len : ∀ (parts : List (List Nat)), (∀ p ∈ parts, p.length = 1) → (joinL [] parts).length = parts.length
  | [], _ => rfl
  | [p], h => h p (.head _)
  | p :: q :: r, h => by
    show (p ++ ([] ++ joinL [] (q :: r))).length = (q :: r).length + 1
    rw [List.length_append, List.nil_append, joinL_len (q :: r) fun x hx => h x (.tail _ hx), h p (.head _)]
    omega
/-- signs joined -/
theorem join_signs (ys : List Str) (cs : List Nat) (h : ∀ y ∈ ys, ∃ c ∈ cs, y = ⟨#[c]⟩) : (Txt.join "" ys).length = ys.length ∧ ∀ c ∈ (Txt.join "" ys).cps.toList, c ∈ cs := by
  have e : tl (Txt.join "" ys) = joinL [] (ys.map tl) := by
    rw [join_eq, tl_join]
    rfl
  refine ⟨?_, fun c hc => ?_⟩
  · rw [len_tl, e, joinL_len, List.length_map]
    intro p hp
    obtain ⟨y, hy, rfl⟩ := List.mem_map.mp hp
    obtain ⟨c, _, rfl⟩ := h y hy
    rfl
  · have hc' : c ∈ tl (Txt.join "" ys) := hc
    rw [e] at hc'
    obtain ⟨p, hp, hcp⟩ := joinL_mem _ c hc'
    obtain ⟨y, hy, rfl⟩ := List.mem_map.mp hp
    obtain ⟨c', hc2, rfl⟩ := h y hy
    have : c = c' := List.mem_singleton.mp hcp
    rw [this]
    exact hc2
theorem sum_signs (ys : List Str) (cs : List Nat) (h : ∀ y ∈ ys, ∃ c ∈ cs, y = ⟨#[c]⟩) : (ys.map (·.length)).sum = ys.length := by
  induction ys with
  | nil => rfl
  | cons y r ih =>
    rw [List.map_cons, List.sum_cons, ih fun z hz => h z (.tail _ hz), List.length_cons]
    obtain ⟨c, _, rfl⟩ := h y (.head _)
    show 1 + r.length = r.length + 1
    omega
/-- a number drawn between its bounds -/
def spInts (lo hi : Int) : Sp := fun vs H Q _ => ∃ (d : Addr) (H0 : Hp), vs = [.ref d] ∧ Ex H0 H ∧ Dr H0 H d ∧
  ∀ (r : Int) (G0 H' : Hp), lo ≤ r → r ≤ hi → Go (· = d) H0 H G0 H' → Dr G0 H' d → Q (.int r) H'
theorem get_int (xs : List V) (lo hi : Int) (h : ∀ v ∈ xs, ∃ z, v = V.int z ∧ lo ≤ z ∧ z ≤ hi) (r : Int) (r0 : 0 ≤ r) (r1 : r < (xs.length : Int)) : ∃ z, xs[r.toNat]? = some (V.int z) ∧ lo ≤ z ∧ z ≤ hi := by
  have hl : r.toNat < xs.length := by omega
  obtain ⟨z, e, h1⟩ := h _ (List.getElem_mem hl)
  exact ⟨z, by rw [List.getElem?_eq_getElem hl, e], h1⟩
theorem win {z lo hi : Int} (h : lo ≤ z ∧ z ≤ hi) : withinV (.int z) lo hi = true := by
  show (decide (lo ≤ z) && decide (z ≤ hi)) = true
  rw [decide_eq_true h.1, decide_eq_true h.2]
  rfl
end Rt

namespace Rt
open PySem PySem.Spec PyProof.Rows L2 RZ TL
/-! ### tracks: lists of tuples of numbers and texts -/
def tickOf (xs : List V) : Int := match xs with
  | .int t :: _ => t
  | _ => 0
def scD (v : V) : PyData := match v with
  | .int z => .int z
  | .str s => .str s
  | _ => .none
def evD (xs : List V) : PyData := .tuple (xs.map scD)
def trackD (evs : List (List V)) : PyData := .list (evs.map evD)
/-- the events stand at the addresses -/
def Evs (G : Hp) (ps : List Addr) (evs : List (List V)) : Prop := ps.length = evs.length ∧ ∀ (i : Nat) (p : Addr) (xs : List V), ps[i]? = some p → evs[i]? = some xs → G p = some (.tup xs)
/-- a number, or a text that can stand anywhere -/
def Scal2 (v : V) : Prop := (∃ z, v = .int z) ∨ ∃ s : Str, v = .str s ∧ s.length ≤ 1000 ∧ PyData.strOk s = true
theorem Scal2.s {v : V} (h : Scal2 v) : Scal v := h.elim .inl fun ⟨s, e, l, _⟩ => .inr ⟨s, e, l⟩
def Okx (xs : List V) : Prop := (∀ x ∈ xs, Scal2 x) ∧ xs.length ≤ 100
theorem Okx.s {xs : List V} (h : Okx xs) : ∀ x ∈ xs, Scal x := fun x hx => (h.1 x hx).s
theorem Evs.nil (G : Hp) : Evs G [] [] := ⟨rfl, fun i p xs h => by simp at h⟩
theorem Evs.up {G G' : Hp} {ps : List Addr} {evs : List (List V)} (h : Evs G ps evs) (x : Ex G G') : Evs G' ps evs := ⟨h.1, fun i p xs h1 h2 => x _ _ (h.2 i p xs h1 h2)⟩
theorem Evs.snoc {G : Hp} {ps : List Addr} {evs : List (List V)} {p : Addr} {xs : List V} (h : Evs G ps evs) (hp : G p = some (.tup xs)) : Evs G (ps ++ [p]) (evs ++ [xs]) := by
  refine ⟨by rw [List.length_append, List.length_append, h.1]; rfl, fun i q ys h1 h2 => ?_⟩
  by_cases hi : i < ps.length
  · rw [List.getElem?_append_left hi] at h1
    rw [List.getElem?_append_left (by rw [← h.1]; exact hi)] at h2
    exact h.2 i q ys h1 h2
  · rw [List.getElem?_append_right (by omega)] at h1
    rw [List.getElem?_append_right (by rw [← h.1]; omega), ← h.1] at h2
    generalize i - ps.length = j at h1 h2
    match j, h1, h2 with
    | 0, h1, h2 =>
      cases h1
      cases h2
      exact hp
    | k + 1, h1, h2 => simp at h1
theorem Evs.set {G : Hp} {ps : List Addr} {evs : List (List V)} {p : Addr} {xs : List V} (h : Evs G ps evs) (j : Nat) (hp : G p = some (.tup xs)) : Evs G (ps.set j p) (evs.set j xs) := by
  refine ⟨by rw [List.length_set, List.length_set, h.1], fun i q ys h1 h2 => ?_⟩
  rw [List.getElem?_set] at h1 h2
  by_cases e : j = i
  · rw [if_pos e] at h1 h2
    by_cases l : j < ps.length
    · rw [if_pos l] at h1
      rw [if_pos (by rw [← h.1]; exact l)] at h2
      cases h1
      cases h2
      exact hp
    · rw [if_neg l] at h1
      cases h1
  · rw [if_neg e] at h1 h2
    exact h.2 i q ys h1 h2
theorem Evs.at_ {G : Hp} {ps : List Addr} {evs : List (List V)} (h : Evs G ps evs) {i : Nat} (hi : i < evs.length) : ∃ p xs, ps[i]? = some p ∧ evs[i]? = some xs ∧ G p = some (.tup xs) := by
  have hl : i < ps.length := by rw [h.1]; exact hi
  exact ⟨ps[i], evs[i], List.getElem?_eq_getElem hl, List.getElem?_eq_getElem hi, h.2 i _ _ (List.getElem?_eq_getElem hl) (List.getElem?_eq_getElem hi)⟩
section
variable {K : PySem.W.Frag} {G : Hp}
theorem dp_sc {v : V} (h : Scal v) : Dp K G v (scD v) := by
  rcases h with ⟨z, rfl⟩ | ⟨s, rfl, _⟩
  · exact .int z
  · exact .str s
theorem dp_scs : ∀ xs : List V, (∀ x ∈ xs, Scal x) → DpAll K G xs (xs.map scD)
  | [], _ => .nil
  | x :: r, h => .cons (dp_sc (h x (.head _))) (dp_scs r fun y hy => h y (.tail _ hy))
theorem dp_ev {p : Addr} {xs : List V} (hp : G p = some (.tup xs)) (h : ∀ x ∈ xs, Scal x) : Dp K G (.ref p) (evD xs) := .tup (SqT.of hp) (dp_scs xs h)
theorem dp_evs : ∀ (ps : List Addr) (evs : List (List V)), Evs G ps evs → (∀ xs ∈ evs, Okx xs) → DpAll K G (ps.map V.ref) (evs.map evD)
  | [], [], _, _ => .nil
  | p :: ps, xs :: evs, h, ok => .cons (dp_ev (h.2 0 p xs rfl rfl) (ok xs (.head _)).s) (dp_evs ps evs ⟨by have := h.1; simpa using this, fun i q ys h1 h2 => h.2 (i + 1) q ys h1 h2⟩ fun ys hy => ok ys (.tail _ hy))
  | [], xs :: evs, h, _ => by have := h.1; simp at this
  | p :: ps, [], h, _ => by have := h.1; simp at this
theorem dp_track {a : Addr} {ps : List Addr} {evs : List (List V)} (ha : G a = some (.lst (ps.map V.ref))) (h : Evs G ps evs) (ok : ∀ xs ∈ evs, Okx xs) : Dp K G (.ref a) (trackD evs) := .lst (SqL.of ha) (dp_evs ps evs h ok)
end
theorem sc_depth (v : V) : (scD v).depth = 0 := by
  cases v <;> rfl
theorem scs_depth : ∀ xs : List V, PyData.depthAll (xs.map scD) = 0
  | [] => rfl
  | x :: r => by
    show max (scD x).depth (PyData.depthAll (r.map scD)) = 0
    rw [sc_depth, scs_depth r]
    rfl
theorem ev_depth (xs : List V) : (evD xs).depth = 1 := by
  show PyData.depthAll (xs.map scD) + 1 = 1
  rw [scs_depth]
theorem evs_depth : ∀ evs : List (List V), PyData.depthAll (evs.map evD) ≤ 1
  | [] => Nat.zero_le _
  | x :: r => by
    show max (evD x).depth (PyData.depthAll (r.map evD)) ≤ 1
    rw [ev_depth]
    have := evs_depth r
    omega
theorem track_depth (evs : List (List V)) : (trackD evs).depth ≤ 2 := by
  show PyData.depthAll (evs.map evD) + 1 ≤ 2
  have := evs_depth evs
  omega
theorem sc_lay {v : V} (h : Scal2 v) : (scD v).canLay0 = true := by
  rcases h with ⟨z, rfl⟩ | ⟨s, rfl, _, h⟩
  · rfl
  · exact h
theorem scs_lay : ∀ xs : List V, (∀ x ∈ xs, Scal2 x) → PyData.canLayAll0 (xs.map scD) = true
  | [], _ => rfl
  | x :: r, h => by
    show ((scD x).canLay0 && PyData.canLayAll0 (r.map scD)) = true
    rw [sc_lay (h x (.head _)), scs_lay r fun y hy => h y (.tail _ hy)]
    rfl
theorem evs_lay : ∀ evs : List (List V), (∀ xs ∈ evs, Okx xs) → PyData.canLayAll0 (evs.map evD) = true
  | [], _ => rfl
  | x :: r, h => by
    show ((evD x).canLay0 && PyData.canLayAll0 (r.map evD)) = true
    rw [evs_lay r fun y hy => h y (.tail _ hy), Bool.and_true]
    exact scs_lay x (h x (.head _)).1
theorem track_shaped {evs : List (List V)} (h : ∀ xs ∈ evs, Okx xs) : SeqAt.shaped (trackD evs) = true := by
  show ((trackD evs).canLay0 && decide ((trackD evs).depth ≤ 64)) = true
  rw [decide_eq_true (Nat.le_trans (track_depth evs) (by decide)), Bool.and_true]
  exact evs_lay evs h
theorem track_eq {evs : List (List V)} (h : ∀ xs ∈ evs, Okx xs) : PyData.eqv (trackD evs) (trackD evs) = true := SeqAt.eqv_refl _ (SeqAt.canLay_of_shaped (track_shaped h))
theorem nil_shaped : SeqAt.shaped (.list []) = true := by decide
theorem track_nil (evs : List (List V)) : PyData.eqv (trackD evs) (.list []) = decide (evs = []) := by
  cases evs with
  | nil => rfl
  | cons x r => rfl
theorem sc_sm (v : V) : smA (scD v) := by
  cases v <;> exact True.intro
theorem scs_sm : ∀ xs : List V, smAll (xs.map scD)
  | [] => True.intro
  | x :: r => ⟨sc_sm x, scs_sm r⟩
theorem ev_sm {xs : List V} (h : xs.length ≤ 100) : smA (evD xs) := ⟨by rw [List.length_map]; omega, scs_sm xs⟩
theorem evs_sm : ∀ evs : List (List V), (∀ xs ∈ evs, Okx xs) → smAll (evs.map evD)
  | [], _ => True.intro
  | x :: r, h => ⟨ev_sm (h x (.head _)).2, evs_sm r fun y hy => h y (.tail _ hy)⟩
theorem track_sm {evs : List (List V)} (h : ∀ xs ∈ evs, Okx xs) (hl : evs.length ≤ 10000) : smA (trackD evs) := ⟨by rw [List.length_map]; omega, evs_sm evs h⟩
theorem strOk_signs {s : Str} (h : ∀ c ∈ s.cps.toList, c ∈ signsS.cps.toList) : PyData.strOk s = true := by
  have e : ∀ c ∈ signsS.cps.toList, (fun c : Nat => decide (c < 0x110000)) c = true := by decide +kernel
  unfold PyData.strOk
  rw [← Array.all_toList]
  exact List.all_eq_true.mpr fun c hc => e c (h c hc)
theorem withinAll_int : ∀ (vs : List V) (bs : List (Int × Int)), withinAll vs bs = true → ∀ v ∈ vs, ∃ z, v = .int z
  | [], _, _, v, hv => nomatch hv
  | x :: vs, [], h, _, _ => nomatch h
  | x :: vs, b :: bs, h, v, hv => by
    have h' : (withinV x b.1 b.2 && withinAll vs bs) = true := h
    rw [Bool.and_eq_true] at h'
    rcases List.mem_cons.mp hv with rfl | hv
    · cases v with
      | int z => exact ⟨z, rfl⟩
      | _ => exact absurd h'.1 (by simp [withinV])
    · exact withinAll_int vs bs h'.2 v hv
/-- a good thing's texts can stand anywhere -/
theorem thing_scal {xs : List V} (h : thingOk xs = true) : ∀ x ∈ xs, Scal2 x := by
  match xs, h with
  | .str w :: r, h =>
    by_cases hw : w = "mark"
    · subst hw
      rw [thing_mark] at h
      match r, h with
      | [y], h =>
        intro x hx
        simp only [List.mem_cons, List.mem_nil_iff, or_false] at hx
        rcases hx with rfl | rfl
        · exact .inr ⟨_, rfl, by decide, by decide +kernel⟩
        · cases x with
          | str s =>
            have h' : (decide (s.length ≤ 12) && s.cps.toList.all (fun c => decide (c ∈ signsS.cps.toList))) = true := h
            rw [Bool.and_eq_true] at h'
            have h1 := of_decide_eq_true h'.1
            exact .inr ⟨s, rfl, by omega, strOk_signs fun c hc => of_decide_eq_true (List.all_eq_true.mp h'.2 c hc)⟩
          | _ => cases h
    · rw [thing_word hw] at h
      cases hb : wordB w with
      | none => rw [hb] at h; cases h
      | some bs =>
        rw [hb] at h
        have h' : withinAll r bs = true := h
        have hs : PyData.strOk w = true ∧ w.length ≤ 1000 := by
          unfold wordB at hb
          by_cases e1 : w = "on"
          · rw [e1]; exact ⟨by decide +kernel, by decide⟩
          rw [if_neg e1] at hb
          by_cases e2 : w = "off"
          · rw [e2]; exact ⟨by decide +kernel, by decide⟩
          rw [if_neg e2] at hb
          by_cases e3 : w = "knob"
          · rw [e3]; exact ⟨by decide +kernel, by decide⟩
          rw [if_neg e3] at hb
          by_cases e4 : w = "voice"
          · rw [e4]; exact ⟨by decide +kernel, by decide⟩
          rw [if_neg e4] at hb
          cases hb
        intro x hx
        rcases List.mem_cons.mp hx with rfl | hx
        · exact .inr ⟨w, rfl, hs.2, hs.1⟩
        · exact .inl (withinAll_int r bs h' x hx)
/-! ### tables by place, walked -/
/-- enumerate: a new pair at each turn -/
theorem for_enum {K : PySem.W.Frag} {a : Addr} {xs : List V} {g : TG} {tb : TS} {D : Ends} {σ : L2.St} {H : Hp} (Pv : Nat → L2.St → Hp → Prop) (h0 : Pv 0 σ H) (hq : ∀ i σ H, Pv i σ H → SqL K H a xs)
    (hs : ∀ (i : Nat) (x : V) (T : Addr) (σ : L2.St) (H : Hp), xs[i]? = some x → Pv i σ H → H T = none → g (.ref T) σ (upd H T (.tup [.int (i : Nat), x])) fun σ2 H2 => tb { D with nx := Pv (i + 1), ct := Pv (i + 1), bk := D.nx } σ2 H2) (hd : ∀ σ H, Pv xs.length σ H → D.nx σ H) :
    ∃ W : Nat → Nat → L2.St → Hp → Prop, (∃ m, W 0 m σ H) ∧ ∀ i m σ H, W i m σ H →
      ((Ite K a).stop i H ∧ D.nx σ H) ∨ ((Ite K a).go i H ∧ ∃ N : L2.St → Hp → Prop, (∀ σ' H', N σ' H' → ∃ m', m' < m ∧ W (i + 1) m' σ' H') ∧ ∀ v H', (Ite K a).yld i H v H' → g v σ H' fun σ2 H2 => tb { D with nx := N, ct := N, bk := D.nx } σ2 H2) := by
  refine ⟨fun i m σ H => m = xs.length - i ∧ i ≤ xs.length ∧ Pv i σ H, ⟨xs.length, rfl, Nat.zero_le _, h0⟩, ?_⟩
  rintro i m σ H ⟨rfl, hi, p⟩
  have qx := hq i σ H p
  by_cases hlt : i < xs.length
  · have hx : xs[i]? = some xs[i] := List.getElem?_eq_getElem hlt
    refine .inr ⟨⟨xs, _, qx, hx⟩, Pv (i + 1), fun σ' H' p' => ⟨xs.length - (i + 1), by omega, rfl, hlt, p'⟩, fun v H' yl => ?_⟩
    obtain ⟨T, x, rfl, hT, rfl, fx⟩ := yl
    exact hs i x T σ H (fx xs qx) p hT
  · have e : i = xs.length := by omega
    subst e
    exact .inl ⟨⟨xs, qx, Nat.le_refl _⟩, hd σ H p⟩
/-- t + u of two settled tuples -/
theorem cat_x {K : PySem.W.Frag} {d : Addr} {H0 B G0 H : Hp} {a b : Addr} {xs ys : List V} {Q : VK} (S : Sd d H0 B G0 H) (ha : G0 a = some (.tup xs)) (hb : G0 b = some (.tup ys)) (hz : xs.length + ys.length ≤ 1000)
    (q : ∀ (c : Addr) (G1 H1 : Hp), Sd d H0 B G1 H1 → Ex G0 G1 → Ex H H1 → (∀ x, H x ≠ none → G0 x = none → G1 x = none) → G1 c = some (.tup (xs ++ ys)) → Q (.ref c) H1) : rCatA K (.ref a) (.ref b) H Q := by
  refine ⟨a, b, xs, ys, rfl, rfl, SqT.of (S.ex _ _ ha), SqT.of (S.ex _ _ hb), mem_sz (by omega), fun e => ?_, fun _ e => ?_, fun _ _ p hp => ?_⟩
  · exact q b G0 H S (Ex.refl _) (Ex.refl _) (fun _ _ h => h) (by rw [hb, e]; rfl)
  · exact q a G0 H S (Ex.refl _) (Ex.refl _) (fun _ _ h => h) (by rw [ha, e, List.append_nil])
  · refine q p _ _ (S.put _ hp) (Ex.new (S.ex.free hp)) (Ex.new hp) (fun x h1 h2 => ?_) upd_same
    have n : x ≠ p := fun z => h1 (by rw [z]; exact hp)
    rw [upd_ne n]
    exact h2
/-- a track in the making: its list at p, not settled -/
structure TrS (d : Addr) (H0 B : Hp) (p : Addr) (ps : List Addr) (evs : List (List V)) (G H : Hp) : Prop where
  S : Sd d H0 B G H
  hp : H p = some (.lst (ps.map V.ref))
  h0 : G p = none
  hev : Evs G ps evs
  np : d ≠ p
section
variable {d : Addr} {H0 B : Hp} {p : Addr} {ps : List Addr} {evs : List (List V)} {G H : Hp}
theorem TrS.ne {x : Addr} (T : TrS d H0 B p ps evs G H) (h : H x = none) : p ≠ x := ne_of_none T.hp h
theorem TrS.put {x : Addr} (o : HO) (T : TrS d H0 B p ps evs G H) (h : H x = none) : TrS d H0 B p ps evs (upd G x o) (upd H x o) where
  S := T.S.put o h
  hp := (upd_ne (T.ne h)).trans T.hp
  h0 := (upd_ne (T.ne h)).trans T.h0
  hev := T.hev.up (Ex.new (T.S.ex.free h))
  np := T.np
theorem TrS.call {G' H' : Hp} (T : TrS d H0 B p ps evs G H) (g : Go (· = d) G H G' H') (hD : Dr G' H' d) : TrS d H0 B p ps evs G' H' where
  S := T.S.call g hD
  hp := g.keep p _ T.hp fun z => T.np z.symm
  h0 := g.new p (by rw [T.hp]; simp) T.h0
  hev := T.hev.up g.up
  np := T.np
theorem TrS.cat {K : PySem.W.Frag} {a b : Addr} {xs ys : List V} {Q : VK} (T : TrS d H0 B p ps evs G H) (ha : G a = some (.tup xs)) (hb : G b = some (.tup ys)) (hz : xs.length + ys.length ≤ 1000)
    (q : ∀ (c : Addr) (G1 H1 : Hp), TrS d H0 B p ps evs G1 H1 → Ex G G1 → G1 c = some (.tup (xs ++ ys)) → Q (.ref c) H1) : rCatA K (.ref a) (.ref b) H Q :=
  cat_x T.S ha hb hz fun c G1 H1 S1 x1 y1 k1 hc => q c G1 H1 ⟨S1, y1 _ _ T.hp, k1 p (by rw [T.hp]; simp) T.h0, T.hev.up x1, T.np⟩ x1 hc
end
/-- a tuple of numbers and texts, settled -/
def RefOk (G : Hp) (v : V) : Prop := ∃ q xs, v = .ref q ∧ G q = some (.tup xs) ∧ Okx xs
theorem RefOk.up {G G' : Hp} {v : V} (h : RefOk G v) (x : Ex G G') : RefOk G' v := by
  obtain ⟨q, xs, e, h1, h2⟩ := h
  exact ⟨q, xs, e, x _ _ h1, h2⟩
theorem sc2I (z : Int) : Scal2 (.int z) := .inl ⟨z, rfl⟩
theorem okx_app {xs ys : List V} (h1 : ∀ x ∈ xs, Scal2 x) (h2 : ∀ x ∈ ys, Scal2 x) (hl : xs.length + ys.length ≤ 100) : Okx (xs ++ ys) :=
  ⟨fun x hx => (List.mem_append.mp hx).elim (h1 x) (h2 x), by rw [List.length_append]; exact hl⟩
theorem cutV_in (xs : List V) (lo hi : Option Int) : (∀ v ∈ cutV xs lo hi, v ∈ xs) ∧ (cutV xs lo hi).length ≤ xs.length := by
  unfold cutV
  refine ⟨fun v h => List.mem_of_mem_drop (List.mem_of_mem_take h), ?_⟩
  rw [List.length_take, List.length_drop]
  omega
theorem sI_neg (n : Nat) (d : Nat) : HT.sIx n d (some (-1)) = ((-1 : Int) + (n : Int)).toNat := rfl
theorem sI_one (n d : Nat) (h : 0 < n) : HT.sIx n d (some 1) = 1 := by
  show (if (1 : Int) < 0 then ((1 : Int) + (n : Int)).toNat else min (1 : Int).toNat n) = 1
  rw [if_neg (by decide)]
  show min 1 n = 1
  omega
theorem isEv_head {xs : List V} (h : isEv xs = true) : ∃ t ys, xs = .int t :: ys ∧ 0 ≤ t := by
  match xs, h with
  | .int t :: ys, h =>
    have h' : (withinV (.int t) 0 999999 && thingOk ys) = true := h
    rw [Bool.and_eq_true] at h'
    have h2 : (decide (0 ≤ t) && decide (t ≤ 999999)) = true := h'.1
    rw [Bool.and_eq_true] at h2
    exact ⟨t, ys, rfl, of_decide_eq_true h2.1⟩
theorem getD_of {evs : List (List V)} {i : Nat} {xs : List V} (h : evs[i]? = some xs) : evs.getD i [] = xs := by
  rw [List.getD_eq_getElem?_getD, h]
  rfl
/-- a good event, drawn -/
def GoodEv (xs : List V) : Prop := isEv xs = true ∧ Okx xs ∧ xs.length ≤ 5 ∧ ∃ t ys, xs = .int t :: ys ∧ 0 ≤ t ∧ t ≤ 999999 ∧ thingOk ys = true
theorem good_mk {t : Int} {ys : List V} (h0 : 0 ≤ t) (h1 : t ≤ 999999) (h : thingOk ys = true) (hl : ys.length ≤ 4) : GoodEv (.int t :: ys) := by
  refine ⟨?_, ⟨fun x hx => ?_, ?_⟩, ?_, t, ys, rfl, h0, h1, h⟩
  · show (withinV (.int t) 0 999999 && thingOk ys) = true
    rw [win ⟨h0, h1⟩, h]
    rfl
  · rcases List.mem_cons.mp hx with rfl | hx
    · exact .inl ⟨t, rfl⟩
    · exact thing_scal h x hx
  · rw [List.length_cons]
    omega
  · rw [List.length_cons]
    omega
/-- the ticks rise -/
def Rise (evs : List (List V)) : Prop := ∀ (i : Nat) (x y : List V), evs[i]? = some x → evs[i + 1]? = some y → tickOf x ≤ tickOf y
/-- a good track drawn: a new list, not settled -/
def spTrack : Sp := fun vs H Q _ => ∃ (d : Addr) (m : Nat) (H0 : Hp), vs = [.ref d, .int (m : Int)] ∧ m ≤ 1000 ∧ Ex H0 H ∧ Dr H0 H d ∧
  ∀ (p : Addr) (ps : List Addr) (evs : List (List V)) (G0 H' : Hp), Go (· = d) H0 H G0 H' → Dr G0 H' d → H p = none → H' p = some (.lst (ps.map V.ref)) → G0 p = none → Evs G0 ps evs → evs.length ≤ m → (∀ xs ∈ evs, GoodEv xs) → Rise evs → Q (.ref p) H'
end Rt

namespace Rt
open PySem PySem.Spec PyProof.Rows L2 RZ TL
/-! ### {t} of a tuple of numbers and texts: some text -/
def Scal3 (v : V) : Prop := (∃ z : Int, v = .int z ∧ z.natAbs < 10 ^ 40) ∨ ∃ s : Str, v = .str s ∧ s.length ≤ 100 ∧ PyData.strOk s = true
theorem Scal3.s2 {v : V} (h : Scal3 v) : Scal2 v := h.elim (fun ⟨z, e, _⟩ => .inl ⟨z, e⟩) fun ⟨s, e, l, k⟩ => .inr ⟨s, e, by omega, k⟩
def scT (v : V) : Str := match v with
  | .int z => (toString z : String)
  | .str y => reprText y
  | _ => Str.empty
theorem strOk_lt {s : Str} (h : PyData.strOk s = true) : ∀ c ∈ s.cps.toList, c < 16 ^ 8 := fun c hc => by
  unfold PyData.strOk at h
  rw [← Array.all_toList] at h
  have := of_decide_eq_true (List.all_eq_true.mp h c hc)
  exact Nat.lt_trans this (by decide)
theorem scT_len {v : V} (h : Scal3 v) : (scT v).length ≤ 1921 := by
  rcases h with ⟨z, rfl, hz⟩ | ⟨s, rfl, hl, hk⟩
  · exact PyProof.Rows.int_text_len_1921 (log_small hz)
  · have := StrLaws.reprText_len s (strOk_lt hk)
    show (reprText s).length ≤ 1921
    omega
theorem scT_all {prog : Program} {w : World} : ∀ {xs : List V} {its : List Value}, Vals xs its → (∀ v ∈ xs, Scal3 v) → ReprAll prog w its (xs.map scT)
  | [], _, r, _ => by
    cases r
    exact .nil
  | v :: xs, _, r, h => by
    cases r with
    | cons r1 r2 =>
      have tl := scT_all (prog := prog) (w := w) r2 fun z hz => h z (.tail _ hz)
      have hlen := scT_len (h v (.head _))
      rcases h v (.head _) with ⟨z, rfl, hz⟩ | ⟨s, rfl, hl, hk⟩
      · obtain ⟨t, rfl⟩ := r1
        exact .cons (ReprIs.int t (log_small hz)) tl
      · obtain ⟨t, rfl⟩ := r1
        exact .cons (ReprIs.str s t (mem_sz (by have : (reprText s).length ≤ 1921 := hlen; omega))) tl
theorem scT_piled : ∀ xs : List V, (∀ v ∈ xs, Scal3 v) → piled (xs.map scT) ≤ 1923 * xs.length
  | [], _ => Nat.zero_le _
  | v :: xs, h => by
    have h1 := scT_len (h v (.head _))
    have h2 := scT_piled xs fun z hz => h z (.tail _ hz)
    rw [List.map_cons, piled_cons, List.length_cons]
    omega
def tFmtM (K : PySem.W.Frag) (te : TE) : TE := fun σ H Q => te σ H fun x H1 => ∃ (a : Addr) (xs : List V), x = .ref a ∧ SqT K H1 a xs ∧ (∀ v ∈ xs, Scal3 v) ∧ xs.length ≤ 50 ∧ ∀ m : Str, m.length ≤ 100000 → Q (.str m) H1
theorem pe_fmtM {X : Cx} {e : Expr} {te : TE} {pos : Pos} {k : Nat} (hr : Room k X.A) (he : PE X e te) : PE X (.FormattedValue e (-1) none pos) (tFmtM X.K te) := by
  refine ⟨fun pins s σ H Q I h => ?_⟩
  refine wpAny_FormattedValue_plain (thn (he.run pins s σ H _ I h) fun v s1 hv => ?_)
  obtain ⟨x, H1, I1, r1, a, xs, rfl, ht, hc, hl, q⟩ := hv
  cases r1
  obtain ⟨its, rv, ⟨o, ho, hcl, n, hd⟩, _⟩ := I1.tuple ht
  have hp := scT_piled xs hc
  have htx := fmt_text (xs.map scT)
  have hu := hr.units
  have hb : (tupleText (xs.map scT)).length ≤ 99000 := by omega
  exact fmt_tuple (ts := xs.map scT) (by omega) ho hcl hd (scT_all rv hc) (mem_sz (by omega)) fun m u tk hm => ⟨.str m, H1, I1.tok _, ⟨u, rfl⟩, q m (by omega)⟩
theorem withinAll_small : ∀ (vs : List V) (bs : List (Int × Int)), (∀ b ∈ bs, 0 ≤ b.1 ∧ b.2 ≤ 127) → withinAll vs bs = true → ∀ v ∈ vs, ∃ z, v = .int z ∧ 0 ≤ z ∧ z ≤ 127
  | [], _, _, _, v, hv => nomatch hv
  | x :: vs, [], _, h, _, _ => nomatch h
  | x :: vs, b :: bs, hb, h, v, hv => by
    have h' : (withinV x b.1 b.2 && withinAll vs bs) = true := h
    rw [Bool.and_eq_true] at h'
    rcases List.mem_cons.mp hv with rfl | hv
    · cases v with
      | int z =>
        have h2 : (decide (b.1 ≤ z) && decide (z ≤ b.2)) = true := h'.1
        rw [Bool.and_eq_true] at h2
        have h3 := of_decide_eq_true h2.1
        have h4 := of_decide_eq_true h2.2
        have h5 := hb b (.head _)
        exact ⟨z, rfl, by omega, by omega⟩
      | _ => exact absurd h'.1 (by simp [withinV])
    · exact withinAll_small vs bs (fun c hc => hb c (.tail _ hc)) h'.2 v hv
theorem wordB_small {w : Str} {bs : List (Int × Int)} (hb : wordB w = some bs) : (∀ b ∈ bs, 0 ≤ b.1 ∧ b.2 ≤ 127) ∧ PyData.strOk w = true ∧ w.length ≤ 100 := by
  unfold wordB at hb
  by_cases e1 : w = "on"
  · rw [if_pos e1] at hb
    cases hb
    rw [e1]
    exact ⟨by decide, by decide +kernel, by decide⟩
  rw [if_neg e1] at hb
  by_cases e2 : w = "off"
  · rw [if_pos e2] at hb
    cases hb
    rw [e2]
    exact ⟨by decide, by decide +kernel, by decide⟩
  rw [if_neg e2] at hb
  by_cases e3 : w = "knob"
  · rw [if_pos e3] at hb
    cases hb
    rw [e3]
    exact ⟨by decide, by decide +kernel, by decide⟩
  rw [if_neg e3] at hb
  by_cases e4 : w = "voice"
  · rw [if_pos e4] at hb
    cases hb
    rw [e4]
    exact ⟨by decide, by decide +kernel, by decide⟩
  rw [if_neg e4] at hb
  cases hb
theorem sc3I {z : Int} (h0 : -10000000 ≤ z) (h1 : z ≤ 10000000) : Scal3 (.int z) := by
  have : (10000000 : Nat) < 10 ^ 40 := by decide
  exact .inl ⟨z, rfl, by omega⟩
theorem thing_scal3 {xs : List V} (h : thingOk xs = true) : ∀ x ∈ xs, Scal3 x := by
  match xs, h with
  | .str w :: r, h =>
    by_cases hw : w = "mark"
    · subst hw
      rw [thing_mark] at h
      match r, h with
      | [y], h =>
        intro x hx
        simp only [List.mem_cons, List.mem_nil_iff, or_false] at hx
        rcases hx with rfl | rfl
        · exact .inr ⟨_, rfl, by decide, by decide +kernel⟩
        · cases x with
          | str s =>
            have h' : (decide (s.length ≤ 12) && s.cps.toList.all (fun c => decide (c ∈ signsS.cps.toList))) = true := h
            rw [Bool.and_eq_true] at h'
            have h1 := of_decide_eq_true h'.1
            exact .inr ⟨s, rfl, by omega, strOk_signs fun c hc => of_decide_eq_true (List.all_eq_true.mp h'.2 c hc)⟩
          | _ => cases h
    · rw [thing_word hw] at h
      cases hb : wordB w with
      | none => rw [hb] at h; cases h
      | some bs =>
        rw [hb] at h
        have h' : withinAll r bs = true := h
        obtain ⟨b1, b2, b3⟩ := wordB_small hb
        intro x hx
        rcases List.mem_cons.mp hx with rfl | hx
        · exact .inr ⟨w, rfl, b3, b2⟩
        · obtain ⟨z, rfl, z0, z1⟩ := withinAll_small r bs b1 h' x hx
          exact sc3I (by omega) (by omega)
theorem Evs.take {G : Hp} {ps : List Addr} {evs : List (List V)} (h : Evs G ps evs) (n : Nat) : Evs G (ps.take n) (evs.take n) := by
  refine ⟨by rw [List.length_take, List.length_take, h.1], fun i p xs h1 h2 => ?_⟩
  rw [List.getElem?_take] at h1 h2
  by_cases c : i < n
  · rw [if_pos c] at h1 h2
    exact h.2 i p xs h1 h2
  · rw [if_neg c] at h1
    cases h1
theorem Evs.drop {G : Hp} {ps : List Addr} {evs : List (List V)} (h : Evs G ps evs) (n : Nat) : Evs G (ps.drop n) (evs.drop n) := by
  refine ⟨by rw [List.length_drop, List.length_drop, h.1], fun i p xs h1 h2 => ?_⟩
  rw [List.getElem?_drop] at h1 h2
  exact h.2 (n + i) p xs h1 h2
theorem Evs.append {G : Hp} {ps qs : List Addr} {evs fvs : List (List V)} (h : Evs G ps evs) (k : Evs G qs fvs) : Evs G (ps ++ qs) (evs ++ fvs) := by
  refine ⟨by rw [List.length_append, List.length_append, h.1, k.1], fun i p xs h1 h2 => ?_⟩
  by_cases c : i < ps.length
  · rw [List.getElem?_append_left c] at h1
    rw [List.getElem?_append_left (by rw [← h.1]; exact c)] at h2
    exact h.2 i p xs h1 h2
  · rw [List.getElem?_append_right (by omega)] at h1
    rw [List.getElem?_append_right (by rw [← h.1]; omega), ← h.1] at h2
    exact k.2 _ p xs h1 h2
theorem Evs.one {G : Hp} {p : Addr} {xs : List V} (h : G p = some (.tup xs)) : Evs G [p] [xs] := by
  have := (Evs.nil G).snoc h
  exact this
theorem cutV_take (xs : List V) (n : Nat) (h : n ≤ xs.length) : cutV xs none (some (n : Int)) = xs.take n := by
  unfold cutV
  have e1 : HT.sIx xs.length 0 none = 0 := rfl
  have e2 : HT.sIx xs.length xs.length (some (n : Int)) = n := by
    show (if (n : Int) < 0 then ((n : Int) + (xs.length : Int)).toNat else min (n : Int).toNat xs.length) = n
    rw [if_neg (by omega)]
    omega
  rw [e1, e2]
  rfl
theorem cutV_drop (xs : List V) (n : Nat) (h : n ≤ xs.length) : cutV xs (some (n : Int)) none = xs.drop n := by
  unfold cutV
  have e1 : HT.sIx xs.length xs.length none = xs.length := rfl
  have e2 : HT.sIx xs.length 0 (some (n : Int)) = n := by
    show (if (n : Int) < 0 then ((n : Int) + (xs.length : Int)).toNat else min (n : Int).toNat xs.length) = n
    rw [if_neg (by omega)]
    omega
  rw [e1, e2, List.take_of_length_le (by rw [List.length_drop]; exact Nat.le_refl _)]
/-- the like of TrS.cat for a settled stand -/
theorem cat_s {K : PySem.W.Frag} {d : Addr} {H0 B G0 H : Hp} {a b : Addr} {xs ys : List V} {Q : VK} (S : Sd d H0 B G0 H) (ha : G0 a = some (.tup xs)) (hb : G0 b = some (.tup ys)) (hz : xs.length + ys.length ≤ 1000)
    (q : ∀ (c : Addr) (G1 H1 : Hp), Sd d H0 B G1 H1 → Ex G0 G1 → Ex H H1 → G1 c = some (.tup (xs ++ ys)) → Q (.ref c) H1) : rCatA K (.ref a) (.ref b) H Q :=
  cat_x S ha hb hz fun c G1 H1 S1 x1 y1 _ hc => q c G1 H1 S1 x1 y1 hc
end Rt

namespace Rt
open PySem PySem.Spec PyProof.Rows L2 RZ TL LamX
/-- a settled track and the tables -/
structure KS (d : Addr) (A0 B0 : Hp) (TT : List (Addr × Str)) (p : Addr) (ps : List Addr) (evs : List (List V)) (G H : Hp) : Prop where
  S : Sd d A0 B0 G H
  hp : G p = some (.lst (ps.map V.ref))
  hev : Evs G ps evs
  hT : Tabs TT H
section
variable {d : Addr} {A0 B0 : Hp} {TT : List (Addr × Str)} {p : Addr} {ps : List Addr} {evs : List (List V)} {G H : Hp}
theorem KS.put {x : Addr} (o : HO) (T : KS d A0 B0 TT p ps evs G H) (h : H x = none) : KS d A0 B0 TT p ps evs (upd G x o) (upd H x o) :=
  ⟨T.S.put o h, upPut (T.S.ex.free h) T.hp, T.hev.up (Ex.new (T.S.ex.free h)), tabs_new T.hT h⟩
theorem KS.lay {x : Addr} (o : HO) (T : KS d A0 B0 TT p ps evs G H) (h : H x = none) : KS d A0 B0 TT p ps evs G (upd H x o) :=
  ⟨T.S.lay o h, T.hp, T.hev, tabs_new T.hT h⟩
theorem KS.call {G' H' : Hp} (T : KS d A0 B0 TT p ps evs G H) (g : Go (· = d) G H G' H') (hD : Dr G' H' d) : KS d A0 B0 TT p ps evs G' H' :=
  ⟨T.S.call g hD, g.up _ _ T.hp, T.hev.up g.up, tabs_go T.hT T.S.dr g⟩
theorem KS.pure {H' : Hp} (T : KS d A0 B0 TT p ps evs G H) (g : Go (fun _ => False) G H G H') : KS d A0 B0 TT p ps evs G H' :=
  ⟨T.S.pure g, T.hp, T.hev, T.hT.ext (go_ex g)⟩
theorem KS.cat {K : PySem.W.Frag} {a b : Addr} {xs ys : List V} {Q : VK} (T : KS d A0 B0 TT p ps evs G H) (ha : G a = some (.tup xs)) (hb : G b = some (.tup ys)) (hz : xs.length + ys.length ≤ 1000)
    (q : ∀ (c : Addr) (G1 H1 : Hp), KS d A0 B0 TT p ps evs G1 H1 → Ex G G1 → G1 c = some (.tup (xs ++ ys)) → Q (.ref c) H1) : rCatA K (.ref a) (.ref b) H Q :=
  cat_s T.S ha hb hz fun c G1 H1 S1 x1 y1 hc => q c G1 H1 ⟨S1, x1 _ _ T.hp, T.hev.up x1, T.hT.ext y1⟩ x1 hc
theorem KS.clean (T : KS d A0 B0 TT p ps evs G H) : KS d (Rt.clean G) H TT p ps evs (Rt.clean G) H :=
  ⟨Sd.here (clean_ex T.S.ex) (clean_dr T.S.dr), clean_at T.hp (fun ps z => nomatch z), ⟨T.hev.1, fun i q xs h1 h2 => clean_at (T.hev.2 i q xs h1 h2) (fun ps z => nomatch z)⟩, T.hT⟩
end
def EvK (xs : List V) : Prop := Okx xs ∧ ∃ t ys, xs = .int t :: ys ∧ 0 ≤ t ∧ t ≤ 999999

/-- the settled heap, said less -/
theorem Go.weak {m : Addr → Prop} {G G' H H' : Hp} (g : Go m G H G' H') : Go m G H G H' := ⟨Ex.refl _, g.up.trans g.inn, fun _ _ h => h, g.keep, g.there⟩
theorem take_snoc {α : Type} {l : List α} {i : Nat} {x : α} (h : l[i]? = some x) : l.take (i + 1) = l.take i ++ [x] := by
  rw [List.take_add_one, h]
  rfl
theorem at_last {xs : List V} {z : Int} {j : Nat} {v : V} (e : z = -1) (h : xs[j]? = some v) (hj : j + 1 = xs.length) : atI xs z = some v := by
  subst e
  unfold atI ixN
  rw [if_neg (by decide), if_pos (by omega)]
  show xs[((-1 : Int) + (xs.length : Int)).toNat]? = some v
  rw [show ((-1 : Int) + (xs.length : Int)).toNat = j by omega, h]
theorem EvK.okx {xs : List V} (h : EvK xs) : Okx xs := h.1
end Rt

namespace Rt
open PySem PySem.Spec PyProof.Rows L2
/-! ### min(ns, default=d), max(ns, default=d) of a list of numbers -/
def rMinD (K : PySem.W.Frag) : List V → List V → Hp → VK → Prop := fun vs zs H Q => ∃ (a : Addr) (ns : List Int) (z : V), vs = [.ref a] ∧ zs = [z] ∧ SqL K H a (ns.map V.int) ∧ (ns = [] → Q z H) ∧ ∀ m, m ∈ ns → (∀ x ∈ ns, m ≤ x) → Q (.int m) H
def rMaxD (K : PySem.W.Frag) : List V → List V → Hp → VK → Prop := fun vs zs H Q => ∃ (a : Addr) (ns : List Int) (z : V), vs = [.ref a] ∧ zs = [z] ∧ SqL K H a (ns.map V.int) ∧ (ns = [] → Q z H) ∧ ∀ m, m ∈ ns → (∀ x ∈ ns, x ≤ m) → Q (.int m) H
theorem ckMin {X : Cx} (hc : X.calm = true) : CallRK X (.builtin "min") ["default"] (rMinD X.K) := by
  intro pins s σ H vs zs us ws Q I rx rz h
  obtain ⟨a, ns, z, rfl, rfl, hs, q0, q1⟩ := h
  obtain ⟨items, rv, hl, _⟩ := I.list hs
  rw [Vals.ref1 rx]
  cases rz with
  | cons r1 r2 =>
    cases r2
    have hi := rv.ints
    obtain ⟨xs, ex⟩ := hi.allInts.items
    have hn : numsOf (intItems xs).toList = ns := by
      rw [← ex]
      exact hi.numsOf
    rw [nums_intItems] at hn
    have hL := hl.isList
    rw [ex] at hL
    refine PySem.call_min_walkD (PySem.W.iter_listW (I.ok.hd hc) hL fun s2 e2 W st hfp hw hk => ?_)
    refine ⟨_, _, _, _, _, _, _, s.heap, fun i j => decide (numAt xs i < numAt xs j), rfl, W, st, hfp, hw, hk, fun n0 s' hm => ?_, fun n1 => ⟨fun i j vi vj s Q E _ hi hj hq => CmpOf.ints_lt (numAt xs) (fun _ _ => intItems_at) i j vi vj s Q E hi hj hq, fun v s' hP hm => ?_⟩⟩
    · obtain ⟨h', tk, rfl, old⟩ := PySem.W.moved_old e2 rfl hm
      refine ⟨z, H, I.kept old, r1, q0 ?_⟩
      subst hn
      have : xs.size = 0 := by simpa [intItems] using n0
      apply List.eq_nil_of_length_eq_zero
      rw [List.length_map, Array.length_toList, this]
    · obtain ⟨h', tk, rfl, old⟩ := PySem.W.moved_old e2 rfl hm
      obtain ⟨t, rfl⟩ := intItems_at hP
      have hsz : 0 < xs.size := by simpa [intItems] using n1
      obtain ⟨c1, c2⟩ := argBest_lt (numAt xs) (xs.size - 1)
      subst hn
      have es : (intItems xs).size = xs.size := by simp [intItems]
      rw [es]
      refine ⟨.int _, H, I.kept old, ⟨_, rfl⟩, q1 _ ?_ fun b hb => ?_⟩
      · rw [numAt_eq]
        refine PySem.getD_mem ?_
        simp only [List.length_map, Array.length_toList]
        omega
      · obtain ⟨j, hj, rfl⟩ := mem_getD hb
        simp only [List.length_map, Array.length_toList] at hj
        rw [← numAt_eq]
        exact c2 j (by omega)
theorem ckMax {X : Cx} (hc : X.calm = true) : CallRK X (.builtin "max") ["default"] (rMaxD X.K) := by
  intro pins s σ H vs zs us ws Q I rx rz h
  obtain ⟨a, ns, z, rfl, rfl, hs, q0, q1⟩ := h
  obtain ⟨items, rv, hl, _⟩ := I.list hs
  rw [Vals.ref1 rx]
  cases rz with
  | cons r1 r2 =>
    cases r2
    have hi := rv.ints
    obtain ⟨xs, ex⟩ := hi.allInts.items
    have hn : numsOf (intItems xs).toList = ns := by
      rw [← ex]
      exact hi.numsOf
    rw [nums_intItems] at hn
    have hL := hl.isList
    rw [ex] at hL
    refine PySem.call_max_walkD (PySem.W.iter_listW (I.ok.hd hc) hL fun s2 e2 W st hfp hw hk => ?_)
    refine ⟨_, _, _, _, _, _, _, s.heap, fun i j => decide (numAt xs i > numAt xs j), rfl, W, st, hfp, hw, hk, fun n0 s' hm => ?_, fun n1 => ⟨fun i j vi vj s Q E _ hi hj hq => CmpOf.ints_gt (numAt xs) (fun _ _ => intItems_at) i j vi vj s Q E hi hj hq, fun v s' hP hm => ?_⟩⟩
    · obtain ⟨h', tk, rfl, old⟩ := PySem.W.moved_old e2 rfl hm
      refine ⟨z, H, I.kept old, r1, q0 ?_⟩
      subst hn
      have : xs.size = 0 := by simpa [intItems] using n0
      apply List.eq_nil_of_length_eq_zero
      rw [List.length_map, Array.length_toList, this]
    · obtain ⟨h', tk, rfl, old⟩ := PySem.W.moved_old e2 rfl hm
      obtain ⟨t, rfl⟩ := intItems_at hP
      have hsz : 0 < xs.size := by simpa [intItems] using n1
      obtain ⟨c1, c2⟩ := argBest_gt (numAt xs) (xs.size - 1)
      subst hn
      have es : (intItems xs).size = xs.size := by simp [intItems]
      rw [es]
      refine ⟨.int _, H, I.kept old, ⟨_, rfl⟩, q1 _ ?_ fun b hb => ?_⟩
      · rw [numAt_eq]
        refine PySem.getD_mem ?_
        simp only [List.length_map, Array.length_toList]
        omega
      · obtain ⟨j, hj, rfl⟩ := mem_getD hb
        simp only [List.length_map, Array.length_toList] at hj
        rw [← numAt_eq]
        exact c2 j (by omega)
end Rt

namespace Rt
open PySem PySem.Spec PyProof.Rows L2 RZ TL LamX
/-! ### events as a type -/
inductive Evt where
  | key (on : Bool) (t c k f : Int)
  | knob (t c k v : Int)
  | voice (t c v : Int)
  | mark (t : Int) (s : Str)
def Evt.word : Evt → Str
  | .key true .. => "on"
  | .key false .. => "off"
  | .knob .. => "knob"
  | .voice .. => "voice"
  | .mark .. => "mark"
def onW (b : Bool) : Str := if b then "on" else "off"
def Evt.v : Evt → List V
  | .key b t c k f => [.int t, .str (onW b), .int c, .int k, .int f]
  | .knob t c k v => [.int t, .str "knob", .int c, .int k, .int v]
  | .voice t c v => [.int t, .str "voice", .int c, .int v]
  | .mark t s => [.int t, .str "mark", .str s]
def Evt.tick : Evt → Int
  | .key _ t .. => t
  | .knob t .. => t
  | .voice t .. => t
  | .mark t _ => t
def low (b : Bool) : Int := if b then 1 else 0
def Evt.Ok : Evt → Prop
  | .key b t c k f => (0 ≤ t ∧ t ≤ 999999) ∧ (0 ≤ c ∧ c ≤ 15) ∧ (0 ≤ k ∧ k ≤ 127) ∧ (low b ≤ f ∧ f ≤ 127)
  | .knob t c k v => (0 ≤ t ∧ t ≤ 999999) ∧ (0 ≤ c ∧ c ≤ 15) ∧ (0 ≤ k ∧ k ≤ 127) ∧ (0 ≤ v ∧ v ≤ 127)
  | .voice t c v => (0 ≤ t ∧ t ≤ 999999) ∧ (0 ≤ c ∧ c ≤ 15) ∧ (0 ≤ v ∧ v ≤ 127)
  | .mark t s => (0 ≤ t ∧ t ≤ 999999) ∧ s.length ≤ 12 ∧ ∀ c ∈ s.cps.toList, c ∈ signsS.cps.toList
theorem Evt.tick_v (e : Evt) : tickOf e.v = e.tick := by cases e <;> rfl
theorem Evt.Ok.tk {e : Evt} (h : e.Ok) : 0 ≤ e.tick ∧ e.tick ≤ 999999 := by cases e <;> exact h.1
theorem win_inv {v : V} {lo hi : Int} (h : withinV v lo hi = true) : ∃ z, v = .int z ∧ lo ≤ z ∧ z ≤ hi := by
  cases v with
  | int z =>
    have h' : (decide (lo ≤ z) && decide (z ≤ hi)) = true := h
    rw [Bool.and_eq_true] at h'
    exact ⟨z, rfl, of_decide_eq_true h'.1, of_decide_eq_true h'.2⟩
  | _ => exact absurd h (by simp [withinV])
theorem winAll3 {r : List V} {b1 b2 b3 : Int × Int} (h : withinAll r [b1, b2, b3] = true) : ∃ x y z, r = [.int x, .int y, .int z] ∧ (b1.1 ≤ x ∧ x ≤ b1.2) ∧ (b2.1 ≤ y ∧ y ≤ b2.2) ∧ (b3.1 ≤ z ∧ z ≤ b3.2) := by
  match r, h with
  | [u, v, w], h =>
    have h' : (withinV u b1.1 b1.2 && (withinV v b2.1 b2.2 && (withinV w b3.1 b3.2 && true))) = true := h
    simp only [Bool.and_eq_true] at h'
    obtain ⟨x, rfl, hx⟩ := win_inv h'.1
    obtain ⟨y, rfl, hy⟩ := win_inv h'.2.1
    obtain ⟨z, rfl, hz⟩ := win_inv h'.2.2.1
    exact ⟨x, y, z, rfl, hx, hy, hz⟩
  | [], h => nomatch h
  | [u], h => exact absurd h (by simp [withinAll])
  | [u, v], h => exact absurd h (by simp [withinAll])
  | u :: v :: w :: y :: r, h => exact absurd h (by simp [withinAll])
theorem winAll2 {r : List V} {b1 b2 : Int × Int} (h : withinAll r [b1, b2] = true) : ∃ x y, r = [.int x, .int y] ∧ (b1.1 ≤ x ∧ x ≤ b1.2) ∧ (b2.1 ≤ y ∧ y ≤ b2.2) := by
  match r, h with
  | [u, v], h =>
    have h' : (withinV u b1.1 b1.2 && (withinV v b2.1 b2.2 && true)) = true := h
    simp only [Bool.and_eq_true] at h'
    obtain ⟨x, rfl, hx⟩ := win_inv h'.1
    obtain ⟨y, rfl, hy⟩ := win_inv h'.2.1
    exact ⟨x, y, rfl, hx, hy⟩
  | [], h => nomatch h
  | [u], h => exact absurd h (by simp [withinAll])
  | u :: v :: w :: r, h => exact absurd h (by simp [withinAll])
theorem thing_head : ∀ {r : List V}, thingOk r = true → ∃ w r', r = .str w :: r'
  | .str w :: r', _ => ⟨w, r', rfl⟩
  | [], h => nomatch h
  | .non :: _, h => nomatch h
  | .bl _ :: _, h => nomatch h
  | .int _ :: _, h => nomatch h
  | .ref _ :: _, h => nomatch h
  | .byt _ :: _, h => nomatch h
theorem text_inv {v : V} (h : textOk v = true) : ∃ s, v = .str s ∧ s.length ≤ 12 ∧ ∀ c ∈ s.cps.toList, c ∈ signsS.cps.toList := by
  cases v with
  | str s =>
    have h3' : (decide (s.length ≤ 12) && s.cps.toList.all (fun c => decide (c ∈ signsS.cps.toList))) = true := h
    rw [Bool.and_eq_true] at h3'
    exact ⟨s, rfl, of_decide_eq_true h3'.1, fun c hc => of_decide_eq_true (List.all_eq_true.mp h3'.2 c hc)⟩
  | _ => cases h
theorem mark_inv : ∀ {r : List V}, markOk r = true → ∃ s, r = [.str s] ∧ s.length ≤ 12 ∧ ∀ c ∈ s.cps.toList, c ∈ signsS.cps.toList
  | [v], h => by
    obtain ⟨s, rfl, h2⟩ := text_inv (v := v) h
    exact ⟨s, rfl, h2⟩
  | [], h => nomatch h
  | _ :: _ :: _, h => nomatch h
/-- a good event is one of the five -/
theorem good_evt {xs : List V} (h : isEv xs = true) : ∃ e : Evt, xs = e.v ∧ e.Ok := by
  match xs, h with
  | t :: r, h =>
    have h' : (withinV t 0 999999 && thingOk r) = true := h
    rw [Bool.and_eq_true] at h'
    obtain ⟨t, rfl, ht⟩ := win_inv h'.1
    obtain ⟨w, r, rfl⟩ := thing_head h'.2
    have h2 := h'.2
    · by_cases hw : w = "mark"
      · subst hw
        rw [thing_mark] at h2
        obtain ⟨s, rfl, h3, h4⟩ := mark_inv h2
        exact ⟨.mark t s, rfl, ht, h3, h4⟩
      · rw [thing_word hw] at h2
        unfold wordB at h2
        by_cases e1 : w = "on"
        · rw [if_pos e1] at h2
          obtain ⟨x, y, z, rfl, hx, hy, hz⟩ := winAll3 h2
          exact ⟨.key true t x y z, by rw [e1]; rfl, ht, hx, hy, hz⟩
        rw [if_neg e1] at h2
        by_cases e2 : w = "off"
        · rw [if_pos e2] at h2
          obtain ⟨x, y, z, rfl, hx, hy, hz⟩ := winAll3 h2
          exact ⟨.key false t x y z, by rw [e2]; rfl, ht, hx, hy, hz⟩
        rw [if_neg e2] at h2
        by_cases e3 : w = "knob"
        · rw [if_pos e3] at h2
          obtain ⟨x, y, z, rfl, hx, hy, hz⟩ := winAll3 h2
          exact ⟨.knob t x y z, by rw [e3]; rfl, ht, hx, hy, hz⟩
        rw [if_neg e3] at h2
        by_cases e4 : w = "voice"
        · rw [if_pos e4] at h2
          obtain ⟨x, y, rfl, hx, hy⟩ := winAll2 h2
          exact ⟨.voice t x y, by rw [e4]; rfl, ht, hx, hy⟩
        rw [if_neg e4] at h2
        cases h2
theorem okx_of_good {xs : List V} (h : GoodEv xs) : Okx xs := h.2.1
/-- a track of good events -/
theorem good_evts : ∀ {evs : List (List V)}, (∀ xs ∈ evs, GoodEv xs) → ∃ es : List Evt, evs = es.map Evt.v ∧ ∀ e ∈ es, e.Ok
  | [], _ => ⟨[], rfl, fun e h => nomatch h⟩
  | x :: r, h => by
    obtain ⟨e, he, ho⟩ := good_evt (h x (.head _)).1
    obtain ⟨es, h1, h2⟩ := good_evts fun y hy => h y (.tail _ hy)
    refine ⟨e :: es, by rw [he, h1]; rfl, fun z hz => ?_⟩
    rcases List.mem_cons.mp hz with rfl | hz
    · exact ho
    · exact h2 z hz
theorem onW_ok (b : Bool) : PyData.strOk (onW b) = true ∧ (onW b).length ≤ 10 := by cases b <;> exact ⟨by decide +kernel, by decide⟩
theorem Evt.Ok.okx {e : Evt} (h : e.Ok) : Okx e.v ∧ e.v.length ≤ 5 := by
  have key : ∀ s : Str, s.length ≤ 12 → PyData.strOk s = true → Scal2 (.str s) := fun s h1 h2 => .inr ⟨s, rfl, by omega, h2⟩
  cases e with
  | key b t c k f =>
    refine ⟨⟨fun x hx => ?_, (by show 5 ≤ 100; decide)⟩, (by show 5 ≤ 5; decide)⟩
    simp only [Evt.v, List.mem_cons, List.mem_nil_iff, or_false] at hx
    rcases hx with rfl | rfl | rfl | rfl | rfl
    · exact sc2I _
    · exact key _ (Nat.le_trans (onW_ok b).2 (by decide)) (onW_ok b).1
    all_goals exact sc2I _
  | knob t c k v =>
    refine ⟨⟨fun x hx => ?_, (by show 5 ≤ 100; decide)⟩, (by show 5 ≤ 5; decide)⟩
    simp only [Evt.v, List.mem_cons, List.mem_nil_iff, or_false] at hx
    rcases hx with rfl | rfl | rfl | rfl | rfl
    · exact sc2I _
    · exact key _ (by decide) (by decide +kernel)
    all_goals exact sc2I _
  | voice t c v =>
    refine ⟨⟨fun x hx => ?_, (by show 4 ≤ 100; decide)⟩, (by show 4 ≤ 5; decide)⟩
    simp only [Evt.v, List.mem_cons, List.mem_nil_iff, or_false] at hx
    rcases hx with rfl | rfl | rfl | rfl
    · exact sc2I _
    · exact key _ (by decide) (by decide +kernel)
    all_goals exact sc2I _
  | mark t s =>
    refine ⟨⟨fun x hx => ?_, (by show 3 ≤ 100; decide)⟩, (by show 3 ≤ 5; decide)⟩
    simp only [Evt.v, List.mem_cons, List.mem_nil_iff, or_false] at hx
    rcases hx with rfl | rfl | rfl
    · exact sc2I _
    · exact key _ (by decide) (by decide +kernel)
    · exact key s h.2.1 (strOk_signs h.2.2)
theorem evs_at {G : Hp} {ps : List Addr} {es : List Evt} (h : Evs G ps (es.map Evt.v)) {i : Nat} {x : V} (hx : (ps.map V.ref)[i]? = some x) : ∃ p e, x = .ref p ∧ ps[i]? = some p ∧ es[i]? = some e ∧ G p = some (.tup e.v) := by
  have hil : i < ps.length := by
    have := (List.getElem?_eq_some_iff.mp hx).1
    rwa [List.length_map] at this
  have hl : ps.length = es.length := by rw [h.1, List.length_map]
  obtain ⟨p, xs, hp, hxs, hpx⟩ := h.at_ (i := i) (by rw [List.length_map]; omega)
  have he : es[i]? = some es[i] := List.getElem?_eq_getElem (by omega)
  rw [List.getElem?_map, he] at hxs
  cases hxs
  rw [map_ref hp] at hx
  exact ⟨p, es[i], (Option.some.inj hx).symm, hp, he, hpx⟩
theorem Evs.len {G : Hp} {ps : List Addr} {es : List Evt} (h : Evs G ps (es.map Evt.v)) : ps.length = es.length := by rw [h.1, List.length_map]
/-- is it an on or an off -/
def Evt.isKey : Evt → Bool
  | .key .. => true
  | _ => false
theorem in_onoff (e : Evt) : inV (e.v.getD 1 .non) [.str "on", .str "off"] = e.isKey := by
  cases e with
  | key b t c k f =>
    cases b
    · show inV (.str "off") [.str "on", .str "off"] = true; decide +kernel
    · show inV (.str "on") [.str "on", .str "off"] = true; decide +kernel
  | knob t c k v => show inV (.str "knob") [.str "on", .str "off"] = false; decide +kernel
  | voice t c v => show inV (.str "voice") [.str "on", .str "off"] = false; decide +kernel
  | mark t s => show inV (.str "mark") [.str "on", .str "off"] = false; decide +kernel
end Rt

namespace Rt
open PySem PySem.Spec PyProof.Rows L2
/-! ### steps of the settled heap, said with a new letter -/
theorem Sd.nw {d p : Addr} {A0 A H0 H : Hp} (S : Sd d A0 A H0 H) (o : HO) (h : H p = none) : ∃ G0 G, upd H p o = G ∧ Sd d A0 A G0 G ∧ G0 p = some o ∧ Ex H0 G0 :=
  ⟨_, _, rfl, S.put o h, upd_same, Ex.new (S.ex.free h)⟩
theorem Go.nw {m : Addr → Prop} {p : Addr} {E0 E H0 H : Hp} (g : Go m E0 E H0 H) (o : HO) (h : H p = none) : ∃ G0 G, upd H p o = G ∧ Go m E0 E G0 G ∧ G0 p = some o ∧ Ex H0 G0 :=
  ⟨_, _, rfl, g.put o h, upd_same, Ex.new (g.inn.free h)⟩
/-- a new object, not settled -/
theorem Go.ly {m : Addr → Prop} {p : Addr} {E0 E H0 H : Hp} (g : Go m E0 E H0 H) (o : HO) (h : H p = none) : ∃ G, upd H p o = G ∧ Go m E0 E H0 G ∧ G p = some o ∧ Ex H G ∧ E p = none ∧ H0 p = none :=
  ⟨_, rfl, g.lay o h, upd_same, Ex.new h, g.fresh h, g.fresh0 h⟩
theorem upS {G : Hp} {p b : Addr} {o u : HO} (n : G p = none) (h : G b = some u) : upd G p o b = some u := by
  rw [upd_ne (ne_of_none h n)]
  exact h
/-- all but the drawing's list is settled -/
def butD (d : Addr) (H : Hp) : Hp := fun x => if x = d then none else H x
theorem but_ex (d : Addr) (H : Hp) : Ex (butD d H) H := fun x o h => by
  unfold butD at h
  split at h
  · cases h
  · exact h
theorem but_at {d x : Addr} {H : Hp} (n : x ≠ d) : butD d H x = H x := if_neg n
theorem but_dr {H0 H : Hp} {d : Addr} (e : Ex H0 H) (D : Dr H0 H d) : Dr (butD d H) H d := by
  obtain ⟨⟨a, ns, i, j, k, l, h1, h2, h3⟩, o⟩ := D
  refine ⟨⟨a, ns, i, j, k, l, h1, ?_, h3⟩, if_pos rfl⟩
  have n : a ≠ d := fun z => by rw [z, o] at h2; cases h2
  rw [but_at n]
  exact e _ _ h2
theorem but_none {d x : Addr} {H : Hp} (h : H x = none) : butD d H x = none := by
  unfold butD
  split
  · rfl
  · exact h
theorem but_up {d : Addr} {H0 H : Hp} (e : Ex H0 H) (h : H0 d = none) : Ex H0 (butD d H) := fun x o q => by
  rw [but_at (fun z => by rw [z, h] at q; cases q)]
  exact e _ _ q
end Rt

namespace Rt
open PySem PySem.Spec PyProof.Rows L2 RZ TL LamX
/-! ### keen tracks: few keys -/
def RiseE (es : List Evt) : Prop := ∀ j x y, es[j]? = some x → es[j + 1]? = some y → x.tick ≤ y.tick
/-- a drawn track: a list of events, the list itself not settled -/
def spKeen : Sp := fun vs H Q _ => ∃ (d : Addr) (m : Nat) (H0 : Hp), vs = [.ref d, .int (m : Int)] ∧ m ≤ 1000 ∧ Ex H0 H ∧ Dr H0 H d ∧
  ∀ (p : Addr) (ps : List Addr) (es : List Evt) (G0 H' : Hp), Go (· = d) H0 H G0 H' → Dr G0 H' d → H p = none → H' p = some (.lst (ps.map V.ref)) → G0 p = none → Evs G0 ps (es.map Evt.v) → es.length ≤ m → (∀ e ∈ es, e.Ok) → RiseE es → Q (.ref p) H'
/-- pairs of a channel and a key, settled -/
def Pairs (G : Hp) (vs : List V) : Prop := ∀ v ∈ vs, ∃ q c k, v = .ref q ∧ G q = some (.tup [.int c, .int k]) ∧ (0 ≤ c ∧ c ≤ 15) ∧ (0 ≤ k ∧ k ≤ 127)
theorem Pairs.up {G G' : Hp} {vs : List V} (h : Pairs G vs) (x : Ex G G') : Pairs G' vs := fun v hv => by
  obtain ⟨q, c, k, e, h1, h2⟩ := h v hv
  exact ⟨q, c, k, e, x _ _ h1, h2⟩
theorem Pairs.snoc {G : Hp} {vs : List V} {q : Addr} {c k : Int} (h : Pairs G vs) (hq : G q = some (.tup [.int c, .int k])) (hc : 0 ≤ c ∧ c ≤ 15) (hk : 0 ≤ k ∧ k ≤ 127) : Pairs G (vs ++ [.ref q]) := fun v hv => by
  rcases List.mem_append.mp hv with h1 | h1
  · exact h v h1
  · exact ⟨q, c, k, List.mem_singleton.mp h1, hq, hc, hk⟩
theorem RiseE.snoc {es : List Evt} {e : Evt} (h : RiseE es) (hl : ∀ x ∈ es, x.tick ≤ e.tick) : RiseE (es ++ [e]) := fun j x y hx hy => by
  have ly := (List.getElem?_eq_some_iff.mp hy).1
  rw [List.length_append] at ly
  have ly : j + 1 < es.length + 1 := ly
  rw [List.getElem?_append_left (by omega)] at hx
  by_cases c : j + 1 < es.length
  · rw [List.getElem?_append_left c] at hy
    exact h j x y hx hy
  · rw [List.getElem?_append_right (by omega), show j + 1 - es.length = 0 by omega] at hy
    cases hy
    exact hl x (List.mem_of_getElem? hx)
theorem TrS.nw {d : Addr} {H0 B : Hp} {p : Addr} {ps : List Addr} {evs : List (List V)} {G H : Hp} {x : Addr} (T : TrS d H0 B p ps evs G H) (o : HO) (h : H x = none) :
    ∃ G' H', upd H x o = H' ∧ TrS d H0 B p ps evs G' H' ∧ G' x = some o ∧ Ex G G' := ⟨_, _, rfl, T.put o h, upd_same, Ex.new (T.S.ex.free h)⟩
theorem evt_of {t : Int} {ys : List V} (h0 : 0 ≤ t) (h1 : t ≤ 999999) (h : thingOk ys = true) (hl : ys.length ≤ 4) : ∃ e : Evt, .int t :: ys = e.v ∧ e.Ok ∧ e.tick = t := by
  obtain ⟨e, he, ok⟩ := good_evt (good_mk h0 h1 h hl).1
  refine ⟨e, he, ok, ?_⟩
  rw [← Evt.tick_v, ← he]
  rfl
end Rt

namespace Rt
open PySem PySem.Spec PyProof.Rows L2
/-! ### setdefault of a dict whose keys are tuples -/
def rSetdT : V → List V → Hp → VK → Prop := fun x xs H Q => ∃ (D : Addr) (es : List (List L2.Key × V)) (c : List L2.Key) (kp : Addr) (new : V),
  x = .ref D ∧ xs = [.ref kp, new] ∧ H D = some (.dT es) ∧ H kp = some (.tup (c.map kV)) ∧ es.length < sizeLine ∧
  (∀ old, valV es c = some old → Q old H) ∧ (valV es c = none → Q new (upd H D (.dT (putK es c new))))
theorem mt_setdT {X : Cx} (hu : X.A.units + 1 < cLine) : MtR X "dict.setdefault" rSetdT := by
  intro pins s σ H x xs v us Q I rx rxs h
  obtain ⟨D, es, c, kp, new, rfl, rfl, hD, hk, small, q1, q2⟩ := h
  cases rx
  obtain ⟨u1, u2, rfl, r1, r2⟩ := vals2 rxs
  cases r1
  obtain ⟨sz, sys, ys, rel, dd⟩ := dt_of I.hok hD
  have ysz : ys.length ≤ sizeLine := (Paired.length rel) ▸ sz
  refine call_setdefault_heap (hsz := ysz) (tupleKind_room_in1 hu) (key_of I.hok hk) sys dd (fun p hp => ?_) (fun hn h' dd' same => ?_)
  · have r := rel.val c
    rw [hp] at r
    cases ev : valV es c with
    | none => rw [ev] at r; exact (show False from r).elim
    | some old =>
      rw [ev] at r
      exact ⟨old, H, I.tok _, r, q1 old ev⟩
  · have r := rel.val c
    rw [hn] at r
    cases ev : valV es c with
    | some old => rw [ev] at r; exact (show False from r).elim
    | none =>
      have lp : (putK es c new).length ≤ sizeLine := by
        have := length_putK es c new
        omega
      obtain ⟨ob, e1, e2, g1, g2, g3, g4, _, g5⟩ := dd'
      have mu : L2.Mut (H D) := by rw [hD]; exact True.intro
      have nw := (rel.put c hk r2).keeps (H' := upd H D (.dT (putK es c new))) fun b zs eb => by
        rw [upd_ne (ne_of eb hD (fun z => nomatch z))]
        exact eb
      exact ⟨new, _, d_write (ob := .dT (putK es c new)) (t' := s.toks + _) I mu same ⟨ob, g1⟩ ⟨lp, sys, _, nw, ob, e1, e2, g1, g2, g3, g4, g5⟩, r2, q2 ev⟩
end Rt

namespace Rt
open PySem PySem.Spec PyProof.Rows L2 RZ TL LamX
/-! ### notes led to their ends -/
abbrev Row := Nat × Option Nat
structure NS where
  rows : List Row
  alone : List Nat
  above : List Nat
def Evt.ck : Evt → Option (Int × Int)
  | .key _ _ c k _ => some (c, k)
  | _ => none
def ckAt (es : List Evt) (j : Nat) : Option (Int × Int) := (es[j]?).bind Evt.ck
def isOpen (es : List Evt) (c : Int × Int) (r : Row) : Bool := decide (r.2 = none) && decide (ckAt es r.1 = some c)
def openAt (es : List Evt) (rows : List Row) (c : Int × Int) : List Nat := (rows.filter (isOpen es c)).map (·.1)
def setEnd (rows : List Row) (b i : Nat) : List Row := rows.map fun r => if r.1 = b then (r.1, some i) else r
def stepN (es : List Evt) (i : Nat) (s : NS) : NS := match es[i]? with
  | some (.key true _ c k _) => ⟨s.rows ++ [(i, none)], s.alone, if openAt es s.rows (c, k) = [] then s.above else s.above ++ [i]⟩
  | some (.key false _ c k _) => match openAt es s.rows (c, k) with
    | [] => ⟨s.rows, s.alone ++ [i], s.above⟩
    | b :: _ => ⟨setEnd s.rows b i, s.alone, s.above⟩
  | _ => s
def walkN (es : List Evt) : Nat → NS
  | 0 => ⟨[], [], []⟩
  | i + 1 => stepN es i (walkN es i)
def endV : Option Nat → V
  | none => .non
  | some e => .int (e : Int)
def rowsK (rows : List Row) : List (Key × V) := rows.map fun r => (Sum.inl (r.1 : Int), endV r.2)
theorem rowsK_len (rows : List Row) : (rowsK rows).length = rows.length := List.length_map ..
def Asc (rows : List Row) (i : Nat) : Prop := (rows.map (·.1)).Pairwise (· < ·) ∧ ∀ r ∈ rows, r.1 < i
theorem setEnd_fst (rows : List Row) (b i : Nat) : (setEnd rows b i).map (·.1) = rows.map (·.1) := by
  unfold setEnd
  rw [List.map_map]
  refine List.map_congr_left fun r _ => ?_
  show (if r.1 = b then (r.1, some i) else r).1 = r.1
  split <;> rfl
theorem Asc.up {rows : List Row} {i j : Nat} (h : Asc rows i) (hj : i ≤ j) : Asc rows j := ⟨h.1, fun r hr => Nat.lt_of_lt_of_le (h.2 r hr) hj⟩
theorem Asc.snoc {rows : List Row} {i : Nat} (h : Asc rows i) (v : Option Nat) : Asc (rows ++ [(i, v)]) (i + 1) := by
  refine ⟨?_, fun r hr => ?_⟩
  · rw [List.map_append, List.pairwise_append]
    refine ⟨h.1, List.pairwise_singleton .., fun a ha b hb => ?_⟩
    obtain ⟨r, hr, rfl⟩ := List.mem_map.mp ha
    rw [List.map_singleton, List.mem_singleton] at hb
    rw [hb]
    exact h.2 r hr
  · rcases List.mem_append.mp hr with h1 | h1
    · exact Nat.lt_succ_of_lt (h.2 r h1)
    · rw [List.mem_singleton.mp h1]
      exact Nat.lt_succ_self _
theorem Asc.setE {rows : List Row} {i j b e : Nat} (h : Asc rows i) (hj : i ≤ j) : Asc (setEnd rows b e) j := by
  refine ⟨by rw [setEnd_fst]; exact h.1, fun r hr => ?_⟩
  have h1 : r.1 ∈ (setEnd rows b e).map (·.1) := List.mem_map_of_mem hr
  rw [setEnd_fst] at h1
  obtain ⟨r', hr', e'⟩ := List.mem_map.mp h1
  rw [← e']
  exact Nat.lt_of_lt_of_le (h.2 r' hr') hj
theorem stepN_asc {es : List Evt} {i : Nat} {s : NS} (h : Asc s.rows i) : Asc (stepN es i s).rows (i + 1) := by
  unfold stepN
  split
  · exact h.snoc none
  · split
    · exact h.up (Nat.le_succ i)
    · exact h.setE (Nat.le_succ i)
  · exact h.up (Nat.le_succ i)
theorem walkN_asc (es : List Evt) : ∀ i, Asc (walkN es i).rows i
  | 0 => ⟨List.Pairwise.nil, fun r h => nomatch h⟩
  | i + 1 => stepN_asc (walkN_asc es i)
theorem asc_nd {rows : List Row} {i : Nat} (h : Asc rows i) : (rows.map (·.1)).Nodup := h.1.imp fun a => Nat.ne_of_lt a
theorem row_eq {rows : List Row} (h : (rows.map (·.1)).Nodup) {r s : Row} (hr : r ∈ rows) (hs : s ∈ rows) (e : r.1 = s.1) : r = s := by
  induction rows with
  | nil => exact nomatch hr
  | cons x xs ih =>
    rw [List.map_cons, List.nodup_cons] at h
    rcases List.mem_cons.mp hr with e1 | hr <;> rcases List.mem_cons.mp hs with e2 | hs
    · rw [e1, e2]
    · exact absurd (List.mem_map.mpr ⟨s, hs, by rw [← e, e1]⟩) h.1
    · exact absurd (List.mem_map.mpr ⟨r, hr, by rw [e, e2]⟩) h.1
    · exact ih h.2 hr hs
theorem mem_open {es : List Evt} {rows : List Row} {c : Int × Int} {b : Nat} (h : b ∈ openAt es rows c) : (b, none) ∈ rows ∧ ckAt es b = some c := by
  obtain ⟨r, hr, rfl⟩ := List.mem_map.mp h
  obtain ⟨h1, h2⟩ := List.mem_filter.mp hr
  unfold isOpen at h2
  rw [Bool.and_eq_true] at h2
  have e := of_decide_eq_true h2.1
  refine ⟨?_, of_decide_eq_true h2.2⟩
  rw [← e]
  exact h1
theorem open_snoc (es : List Evt) (rows : List Row) (i : Nat) (c : Int × Int) : openAt es (rows ++ [(i, none)]) c = if ckAt es i = some c then openAt es rows c ++ [i] else openAt es rows c := by
  unfold openAt
  rw [List.filter_append, List.map_append]
  by_cases h : ckAt es i = some c
  · rw [if_pos h, List.filter_cons_of_pos (by unfold isOpen; rw [decide_eq_true h, decide_eq_true rfl]; rfl)]
    rfl
  · rw [if_neg h, List.filter_cons_of_neg (by unfold isOpen; rw [decide_eq_false h, Bool.and_false]; exact Bool.false_ne_true)]
    exact List.append_nil _
theorem open_end {es : List Evt} {rows : List Row} {b i : Nat} {r : List Nat} {c : Int × Int} (hn : (rows.map (·.1)).Nodup) (h : openAt es rows c = b :: r) (c' : Int × Int) :
    openAt es (setEnd rows b i) c' = if c' = c then r else openAt es rows c' := by
  have hb : ckAt es b = some c := (mem_open (es := es) (rows := rows) (c := c) (by rw [h]; exact .head _)).2
  -- what goes is b alone
  have key : openAt es (setEnd rows b i) c' = (openAt es rows c').filter (fun x => decide (x ≠ b)) := by
    clear h
    induction rows with
    | nil => rfl
    | cons x xs ih =>
      rw [List.map_cons, List.nodup_cons] at hn
      have ih := ih hn.2
      unfold openAt setEnd at ih ⊢
      rw [List.map_cons]
      by_cases e : x.1 = b
      · rw [if_pos e, List.filter_cons_of_neg (by show ¬ ((decide (some i = none) && _) = true); rw [decide_eq_false (fun z => nomatch z)]; exact Bool.false_ne_true), ih]
        by_cases p : isOpen es c' x = true
        · rw [List.filter_cons_of_pos p, List.map_cons, List.filter_cons_of_neg (p := fun x => decide (x ≠ b)) (by rw [decide_eq_false (fun z => z e)]; exact Bool.false_ne_true)]
        · rw [List.filter_cons_of_neg p]
      · rw [if_neg e]
        by_cases p : isOpen es c' x = true
        · rw [List.filter_cons_of_pos p, List.filter_cons_of_pos p, List.map_cons, List.map_cons, List.filter_cons_of_pos (p := fun x => decide (x ≠ b)) (decide_eq_true e), ih]
        · rw [List.filter_cons_of_neg p, List.filter_cons_of_neg p, ih]
  rw [key]
  by_cases e : c' = c
  · rw [if_pos e, e, h, List.filter_cons_of_neg (p := fun x => decide (x ≠ b)) (by rw [decide_eq_false (fun z => z rfl)]; exact Bool.false_ne_true)]
    refine List.filter_eq_self.mpr fun x hx => decide_eq_true fun z => ?_
    have nd : (openAt es rows c).Nodup := (List.filter_sublist.map _).nodup hn
    rw [h, List.nodup_cons, ← z] at nd
    exact nd.1 hx
  · rw [if_neg e]
    refine List.filter_eq_self.mpr fun x hx => decide_eq_true fun z => e ?_
    have := (mem_open hx).2
    rw [z, hb] at this
    exact (Option.some.inj this).symm
theorem putK_none {rows : List Row} {i : Nat} (h : ∀ r ∈ rows, r.1 < i) : putK (rowsK rows) (Sum.inl (i : Int)) V.non = rowsK (rows ++ [(i, none)]) := by
  have n : ¬ ((rowsK rows).any (fun kv => decide (kv.1 = Sum.inl (i : Int))) = true) := fun z => by
    obtain ⟨kv, h1, h2⟩ := List.any_eq_true.mp z
    obtain ⟨r, hr, rfl⟩ := List.mem_map.mp h1
    have e : (Sum.inl (r.1 : Int) : Key) = Sum.inl (i : Int) := of_decide_eq_true h2
    have e := Sum.inl.inj e
    have := h r hr
    omega
  unfold putK
  rw [if_neg n]
  unfold rowsK
  rw [List.map_append]
  rfl
theorem putK_end {rows : List Row} {b i : Nat} {v : Option Nat} (h : (b, v) ∈ rows) : putK (rowsK rows) (Sum.inl (b : Int)) (V.int (i : Int)) = rowsK (setEnd rows b i) := by
  have n : (rowsK rows).any (fun kv => decide (kv.1 = Sum.inl (b : Int))) = true := List.any_eq_true.mpr ⟨_, List.mem_map_of_mem h, decide_eq_true rfl⟩
  unfold putK
  rw [if_pos n]
  unfold rowsK setEnd
  rw [List.map_map, List.map_map]
  refine List.map_congr_left fun r _ => ?_
  show (if (Sum.inl (r.1 : Int) : Key) = Sum.inl (b : Int) then (Sum.inl (r.1 : Int), V.int (i : Int)) else (Sum.inl (r.1 : Int), endV r.2)) = (Sum.inl ((if r.1 = b then (r.1, some i) else r).1 : Int), endV (if r.1 = b then (r.1, some i) else r).2)
  by_cases e : r.1 = b
  · rw [if_pos e, if_pos (by rw [e])]
    rfl
  · rw [if_neg e, if_neg (fun z => e (by have := Sum.inl.inj z; omega))]
theorem setEnd_len (rows : List Row) (b i : Nat) : (setEnd rows b i).length = rows.length := List.length_map ..
theorem walkN_len (es : List Evt) : ∀ i, (walkN es i).rows.length ≤ i ∧ (walkN es i).alone.length ≤ i ∧ (walkN es i).above.length ≤ i
  | 0 => ⟨Nat.le_refl _, Nat.le_refl _, Nat.le_refl _⟩
  | i + 1 => by
    obtain ⟨h1, h2, h3⟩ := walkN_len es i
    show (stepN es i (walkN es i)).rows.length ≤ i + 1 ∧ (stepN es i (walkN es i)).alone.length ≤ i + 1 ∧ (stepN es i (walkN es i)).above.length ≤ i + 1
    unfold stepN
    split
    · refine ⟨by rw [List.length_append]; exact Nat.succ_le_succ h1, Nat.le_succ_of_le h2, ?_⟩
      show (if _ then _ else _ : List Nat).length ≤ _
      split
      · omega
      · rw [List.length_append]; exact Nat.succ_le_succ h3
    · split
      · exact ⟨Nat.le_succ_of_le h1, by rw [List.length_append]; exact Nat.succ_le_succ h2, Nat.le_succ_of_le h3⟩
      · exact ⟨by show (setEnd _ _ _).length ≤ _; rw [setEnd_len]; omega, Nat.le_succ_of_le h2, Nat.le_succ_of_le h3⟩
    · exact ⟨by omega, by omega, by omega⟩
/-- the pairs that are told -/
def rowD (r : Row) : PyData := .tuple [.int (r.1 : Int), match r.2 with | none => .none | some e => .int (e : Int)]
def rowsD (rows : List Row) : PyData := .list (rows.map rowD)
/-- what sounds, by channel and key: a list of places for each -/
def keyK (c k : Int) : List Key := [Sum.inl c, Sum.inl k]
def Snd (es : List Evt) (rows : List Row) (kvs : List (List Key × V)) (X : Addr → Prop) (H : Hp) : Prop :=
  (∀ c k, (valV kvs (keyK c k) = none ∧ openAt es rows (c, k) = []) ∨ ∃ l, valV kvs (keyK c k) = some (.ref l) ∧ H l = some (.lst (nums (openAt es rows (c, k)))) ∧ X l) ∧
  ∀ c k c' k' l, valV kvs (keyK c k) = some (.ref l) → valV kvs (keyK c' k') = some (.ref l) → c = c' ∧ k = k'
section
variable {es : List Evt} {rows : List Row} {kvs : List (List Key × V)} {X : Addr → Prop} {H : Hp}
theorem Snd.nil : Snd es [] [] X H := ⟨fun c k => .inl ⟨rfl, rfl⟩, fun c k c' k' l h => nomatch h⟩
theorem Snd.other {x : Addr} (S : Snd es rows kvs X H) (o : HO) (hx : ∀ l ys, H l = some (.lst ys) → X l → l ≠ x) : Snd es rows kvs X (upd H x o) := by
  refine ⟨fun c k => ?_, S.2⟩
  rcases S.1 c k with h | ⟨l, h1, h2, h3⟩
  · exact .inl h
  · exact .inr ⟨l, h1, by rw [upd_ne (hx l _ h2 h3)]; exact h2, h3⟩
theorem Snd.lay {p : Addr} (S : Snd es rows kvs X H) (o : HO) (hp : H p = none) : Snd es rows kvs X (upd H p o) := S.other o fun _ _ h _ => ne_of_none h hp
theorem keyK_inj {c k c' k' : Int} (h : keyK c k = keyK c' k') : c = c' ∧ k = k' := by
  unfold keyK at h
  injection h with h1 h2
  injection h2 with h2 _
  exact ⟨Sum.inl.inj h1, Sum.inl.inj h2⟩
theorem Snd.put {c k : Int} {l : Addr} (S : Snd es rows kvs X H) (hn : valV kvs (keyK c k) = none) (hl : H l = some (.lst [])) (hX : X l) (fr : ∀ c' k', valV kvs (keyK c' k') ≠ some (.ref l)) : Snd es rows (putK kvs (keyK c k) (.ref l)) X H := by
  have nil : openAt es rows (c, k) = [] := by
    rcases S.1 c k with h | ⟨_, h, _⟩
    · exact h.2
    · rw [hn] at h; cases h
  refine ⟨fun c' k' => ?_, fun c1 k1 c2 k2 m h1 h2 => ?_⟩
  · rw [valV_put]
    by_cases e : keyK c' k' = keyK c k
    · obtain ⟨rfl, rfl⟩ := keyK_inj e
      rw [if_pos rfl, nil]
      exact .inr ⟨l, rfl, hl, hX⟩
    · rw [if_neg e]
      exact S.1 c' k'
  · rw [valV_put] at h1 h2
    by_cases e1 : keyK c1 k1 = keyK c k <;> by_cases e2 : keyK c2 k2 = keyK c k
    · obtain ⟨rfl, rfl⟩ := keyK_inj e1
      obtain ⟨rfl, rfl⟩ := keyK_inj e2
      exact ⟨rfl, rfl⟩
    · rw [if_pos e1] at h1
      rw [if_neg e2] at h2
      cases h1
      exact absurd h2 (fr _ _)
    · rw [if_neg e1] at h1
      rw [if_pos e2] at h2
      cases h2
      exact absurd h1 (fr _ _)
    · rw [if_neg e1] at h1
      rw [if_neg e2] at h2
      exact S.2 _ _ _ _ _ h1 h2
theorem Snd.turn {rows' : List Row} {c k : Int} {l : Addr} {new : List Nat} (S : Snd es rows kvs X H) (hl : valV kvs (keyK c k) = some (.ref l)) (e : ∀ c', openAt es rows' c' = if c' = (c, k) then new else openAt es rows c') : Snd es rows' kvs X (upd H l (.lst (nums new))) := by
  refine ⟨fun c' k' => ?_, S.2⟩
  rw [e]
  rcases S.1 c' k' with ⟨h1, h2⟩ | ⟨m, h1, h2, h3⟩
  · rw [if_neg (fun z => by injection z with z1 z2; rw [z1, z2, hl] at h1; cases h1)]
    exact .inl ⟨h1, h2⟩
  · by_cases z : (c', k') = (c, k)
    · injection z with z1 z2
      subst z1 z2
      rw [hl] at h1
      cases h1
      rw [if_pos rfl]
      exact .inr ⟨l, hl, upd_same, h3⟩
    · rw [if_neg z]
      refine .inr ⟨m, h1, ?_, h3⟩
      rw [upd_ne]
      · exact h2
      · intro q
        subst q
        obtain ⟨rfl, rfl⟩ := S.2 _ _ _ _ _ h1 hl
        exact z rfl
theorem Snd.same {rows' : List Row} (S : Snd es rows kvs X H) (e : ∀ c', openAt es rows' c' = openAt es rows c') : Snd es rows' kvs X H :=
  ⟨fun c k => by rw [e]; exact S.1 c k, S.2⟩
end
theorem nums_tail (b : Nat) (r : List Nat) : (nums (b :: r)).eraseIdx 0 = nums r := rfl
theorem nums_pos (r : List Nat) : decide ((0 : Int) < ((nums r).length : Nat)) = decide (r ≠ []) := by
  rw [nums_len]
  cases r with
  | nil => rfl
  | cons x xs =>
    rw [decide_eq_true (by rw [List.length_cons]; omega), decide_eq_true (fun z => nomatch z)]
theorem step_on {es : List Evt} {i : Nat} {t c k f : Int} (he : es[i]? = some (.key true t c k f)) (s : NS) : stepN es i s = ⟨s.rows ++ [(i, none)], s.alone, if openAt es s.rows (c, k) = [] then s.above else s.above ++ [i]⟩ := by
  unfold stepN
  rw [he]
theorem step_off0 {es : List Evt} {i : Nat} {t c k f : Int} (he : es[i]? = some (.key false t c k f)) {s : NS} (h : openAt es s.rows (c, k) = []) : stepN es i s = ⟨s.rows, s.alone ++ [i], s.above⟩ := by
  unfold stepN
  rw [he]
  dsimp only
  rw [h]
theorem step_off1 {es : List Evt} {i b : Nat} {r : List Nat} {t c k f : Int} (he : es[i]? = some (.key false t c k f)) {s : NS} (h : openAt es s.rows (c, k) = b :: r) : stepN es i s = ⟨setEnd s.rows b i, s.alone, s.above⟩ := by
  unfold stepN
  rw [he]
  dsimp only
  rw [h]
theorem step_no {es : List Evt} {i : Nat} {e : Evt} (he : es[i]? = some e) (h : e.isKey = false) (s : NS) : stepN es i s = s := by
  unfold stepN
  rw [he]
  cases e with
  | key b t c k f => cases h
  | _ => rfl
theorem ck_at {es : List Evt} {i : Nat} {b : Bool} {t c k f : Int} (he : es[i]? = some (.key b t c k f)) : ckAt es i = some (c, k) := by
  unfold ckAt
  rw [he]
  rfl
/-- rows that stand as lists of two -/
structure RowsZ (B H : Hp) (a b c : Addr) (zs : List (Addr × Row)) (rows : List Row) : Prop where
  ha : H a = some (.lst (zs.map fun z => V.ref z.1))
  snd : zs.map (·.2) = rows
  nd : (zs.map (·.1)).Nodup
  at_ : ∀ z ∈ zs, H z.1 = some (.lst [.int (z.2.1 : Int), endV z.2.2]) ∧ B z.1 = none ∧ z.1 ≠ a ∧ z.1 ≠ b ∧ z.1 ≠ c
theorem RowsZ.other {B H : Hp} {a b c : Addr} {zs : List (Addr × Row)} {rows : List Row} {x : Addr} (R : RowsZ B H a b c zs rows) (o : HO) (ha : x ≠ a) (hz : ∀ z ∈ zs, z.1 ≠ x) : RowsZ B (upd H x o) a b c zs rows where
  ha := (upd_ne ha.symm).trans R.ha
  snd := R.snd
  nd := R.nd
  at_ := fun z h => by
    have := R.at_ z h
    exact ⟨(upd_ne (hz z h)).trans this.1, this.2⟩
theorem RowsZ.lay {B H : Hp} {a b c : Addr} {zs : List (Addr × Row)} {rows : List Row} {x : Addr} (R : RowsZ B H a b c zs rows) (o : HO) (h : H x = none) : RowsZ B (upd H x o) a b c zs rows :=
  R.other o (ne_of_none R.ha h).symm fun z hz => ne_of_none (R.at_ z hz).1 h
theorem RowsZ.ex {B H H' : Hp} {a b c : Addr} {zs : List (Addr × Row)} {rows : List Row} (R : RowsZ B H a b c zs rows) (x : Ex H H') : RowsZ B H' a b c zs rows where
  ha := x _ _ R.ha
  snd := R.snd
  nd := R.nd
  at_ := fun z h => ⟨x _ _ (R.at_ z h).1, (R.at_ z h).2⟩
def setZ (zs : List (Addr × Row)) (b i : Nat) : List (Addr × Row) := zs.map fun z => if z.2.1 = b then (z.1, (z.2.1, some i)) else z
theorem setZ_snd (zs : List (Addr × Row)) (b i : Nat) : (setZ zs b i).map (·.2) = setEnd (zs.map (·.2)) b i := by
  unfold setZ setEnd
  rw [List.map_map, List.map_map]
  refine List.map_congr_left fun z _ => ?_
  show (if z.2.1 = b then (z.1, (z.2.1, some i)) else z).2 = if z.2.1 = b then (z.2.1, some i) else z.2
  split <;> rfl
theorem setZ_fst (zs : List (Addr × Row)) (b i : Nat) : (setZ zs b i).map (·.1) = zs.map (·.1) := by
  unfold setZ
  rw [List.map_map]
  refine List.map_congr_left fun z _ => ?_
  show (if z.2.1 = b then (z.1, (z.2.1, some i)) else z).1 = z.1
  split <;> rfl
theorem setZ_ref (zs : List (Addr × Row)) (b i : Nat) : ((setZ zs b i).map fun z => V.ref z.1) = zs.map fun z => V.ref z.1 := by
  have h := congrArg (List.map V.ref) (setZ_fst zs b i)
  rw [List.map_map, List.map_map] at h
  exact h
theorem RowsZ.set {B H : Hp} {a b c : Addr} {zs : List (Addr × Row)} {rows : List Row} {l : Addr} {w i : Nat} {v : Option Nat} (R : RowsZ B H a b c zs rows) (hn : (rows.map (·.1)).Nodup) (h : (l, (w, v)) ∈ zs) :
    RowsZ B (upd H l (.lst [.int (w : Int), .int (i : Int)])) a b c (setZ zs w i) (setEnd rows w i) where
  ha := by
    rw [setZ_ref]
    exact (upd_ne (R.at_ _ h).2.2.1.symm).trans R.ha
  snd := by rw [setZ_snd, R.snd]
  nd := by rw [setZ_fst]; exact R.nd
  at_ := fun z hz => by
    obtain ⟨y, hy, rfl⟩ := List.mem_map.mp hz
    have Ry := R.at_ y hy
    have pair : ∀ {zs : List (Addr × Row)}, (zs.map (·.1)).Nodup → ∀ y ∈ zs, ∀ x ∈ zs, y.1 = x.1 → y = x := by
      intro zs
      induction zs with
      | nil => intro _ y hy; exact nomatch hy
      | cons u us ih =>
        intro nd y hy x hx e
        rw [List.map_cons, List.nodup_cons] at nd
        rcases List.mem_cons.mp hy with e1 | hy <;> rcases List.mem_cons.mp hx with e2 | hx
        · rw [e1, e2]
        · exact absurd (List.mem_map.mpr ⟨x, hx, by rw [← e, e1]⟩) nd.1
        · exact absurd (List.mem_map.mpr ⟨y, hy, by rw [e, e2]⟩) nd.1
        · exact ih nd.2 y hy x hx e
    by_cases e : y.2.1 = w
    · rw [if_pos e]
      -- it is l itself
      have ey : y.2 = (w, v) := row_eq hn (by rw [← R.snd]; exact List.mem_map_of_mem hy) (by rw [← R.snd]; exact List.mem_map_of_mem h) e
      have el : y.1 = l := by
        have hn2 : ((zs.map (·.2)).map (·.1)).Nodup := by rw [R.snd]; exact hn
        have one : ∀ {zs : List (Addr × Row)}, ((zs.map (·.2)).map (·.1)).Nodup → ∀ y ∈ zs, ∀ x ∈ zs, y.2.1 = x.2.1 → y = x := by
          intro zs
          induction zs with
          | nil => intro _ y hy; exact nomatch hy
          | cons u us ih =>
            intro nd y hy x hx e
            rw [List.map_cons, List.map_cons, List.nodup_cons] at nd
            rcases List.mem_cons.mp hy with e1 | hy <;> rcases List.mem_cons.mp hx with e2 | hx
            · rw [e1, e2]
            · exact absurd (List.mem_map.mpr ⟨x.2, List.mem_map_of_mem hx, by rw [← e, e1]⟩) nd.1
            · exact absurd (List.mem_map.mpr ⟨y.2, List.mem_map_of_mem hy, by rw [e, e2]⟩) nd.1
            · exact ih nd.2 y hy x hx e
        have := one hn2 y hy _ h e
        rw [this]
      refine ⟨?_, Ry.2⟩
      show upd H l _ y.1 = some (.lst [.int (y.2.1 : Int), .int (i : Int)])
      rw [el, upd_same, e]
    · rw [if_neg e]
      refine ⟨?_, Ry.2⟩
      rw [upd_ne]
      · exact Ry.1
      · intro z
        exact e (by rw [pair R.nd y hy _ h z])
theorem RowsZ.snoc {B H : Hp} {a b c : Addr} {zs : List (Addr × Row)} {rows : List Row} {l : Addr} {w : Nat} (R : RowsZ B H a b c zs rows) (hl : H l = some (.lst [.int (w : Int), .non])) (hB : B l = none) (n1 : l ≠ a) (n2 : l ≠ b) (n3 : l ≠ c) (fr : ∀ z ∈ zs, z.1 ≠ l) :
    RowsZ B (upd H a (.lst ((zs.map fun z => V.ref z.1) ++ [V.ref l]))) a b c (zs ++ [(l, (w, none))]) (rows ++ [(w, none)]) where
  ha := by rw [upd_same, List.map_append]; rfl
  snd := by rw [List.map_append, R.snd]; rfl
  nd := by
    rw [List.map_append]
    unfold List.Nodup
    rw [List.pairwise_append]
    refine ⟨R.nd, List.pairwise_singleton .., fun x hx y hy => ?_⟩
    obtain ⟨z, hz, rfl⟩ := List.mem_map.mp hx
    rw [List.map_singleton, List.mem_singleton] at hy
    rw [hy]
    exact fr z hz
  at_ := fun z hz => by
    rcases List.mem_append.mp hz with h | h
    · have := R.at_ z h
      exact ⟨(upd_ne this.2.2.1).trans this.1, this.2⟩
    · rw [List.mem_singleton.mp h]
      exact ⟨(upd_ne n1).trans hl, hB, n1, n2, n3⟩
theorem walkN_key (es : List Evt) : ∀ i, ∀ r ∈ (walkN es i).rows, ∃ t c k f, es[r.1]? = some (.key true t c k f)
  | 0, r, h => nomatch h
  | i + 1, r, h => by
    have ih := walkN_key es i
    have h : r ∈ (stepN es i (walkN es i)).rows := h
    unfold stepN at h
    split at h
    · rename_i t c k f he
      rcases List.mem_append.mp h with h | h
      · exact ih r h
      · rw [List.mem_singleton.mp h]
        exact ⟨_, _, _, _, he⟩
    · split at h
      · exact ih r h
      · rename_i b _ _
        have h1 : r.1 ∈ (setEnd (walkN es i).rows b i).map (·.1) := List.mem_map_of_mem h
        rw [setEnd_fst] at h1
        obtain ⟨r', hr', e'⟩ := List.mem_map.mp h1
        rw [← e']
        exact ih r' hr'
    · exact ih r h
def selZ (f : Row → Bool) (zs : List (Addr × Row)) : List (Addr × Row) := zs.filter fun z => f z.2
def refZ (zs : List (Addr × Row)) : List V := zs.map fun z => V.ref z.1
theorem selZ_snoc {f : Row → Bool} {zs : List (Addr × Row)} {j : Nat} {z : Addr × Row} (h : zs[j]? = some z) : selZ f (zs.take (j + 1)) = if f z.2 = true then selZ f (zs.take j) ++ [z] else selZ f (zs.take j) := by
  rw [take_snoc h]
  unfold selZ
  rw [List.filter_append]
  by_cases c : f z.2 = true
  · rw [if_pos c, List.filter_cons_of_pos (p := fun z : Addr × Row => f z.2) c]
    rfl
  · rw [if_neg c, List.filter_cons_of_neg (p := fun z : Addr × Row => f z.2) c]
    exact List.append_nil _
theorem selZ_open (es : List Evt) (c : Int × Int) : ∀ zs : List (Addr × Row), (selZ (isOpen es c) zs).map (fun z => z.2.1) = openAt es (zs.map (·.2)) c
  | [] => rfl
  | z :: zs => by
    have ih := selZ_open es c zs
    unfold selZ openAt at ih ⊢
    rw [List.map_cons]
    by_cases p : isOpen es c z.2 = true
    · rw [List.filter_cons_of_pos (p := fun z : Addr × Row => isOpen es c z.2) p, List.filter_cons_of_pos p, List.map_cons, List.map_cons, ih]
    · rw [List.filter_cons_of_neg (p := fun z : Addr × Row => isOpen es c z.2) p, List.filter_cons_of_neg p, ih]
theorem refZ_at {zs : List (Addr × Row)} {j : Nat} {x : V} (h : (refZ zs)[j]? = some x) : ∃ z, zs[j]? = some z ∧ x = V.ref z.1 := by
  unfold refZ at h
  rw [List.getElem?_map] at h
  cases e : zs[j]? with
  | none => rw [e] at h; cases h
  | some z => rw [e] at h; exact ⟨z, rfl, (Option.some.inj h).symm⟩
def rowP (r : Row) : PyData := .list [.int (r.1 : Int), match r.2 with | none => .none | some e => .int (e : Int)]
theorem ck_eq (c k c' k' : Int) : PyData.eqv (.tuple [.int c, .int k]) (.tuple [.int c', .int k']) = decide ((c, k) = (c', k')) := by
  show ((c == c') && ((k == k') && true)) = _
  rw [Bool.and_true]
  by_cases h1 : c = c'
  · by_cases h2 : k = k'
    · subst h1 h2
      rw [decide_eq_true rfl, beq_self_eq_true, beq_self_eq_true]
      rfl
    · rw [decide_eq_false (fun z => h2 (by injection z)), beq_eq_false_iff_ne.mpr h2, Bool.and_false]
  · rw [decide_eq_false (fun z => h1 (by injection z)), beq_eq_false_iff_ne.mpr h1, Bool.false_and]
def hereP (z : Addr × Row) : PyData := .list [.int (z.2.1 : Int), .none]
def hereD (here : List (Addr × Row)) : PyData := .list (here.map hereP)
theorem dp_here {K : PySem.W.Frag} {H : Hp} : ∀ here : List (Addr × Row), (∀ z ∈ here, H z.1 = some (.lst [.int (z.2.1 : Int), .non])) → DpAll K H (refZ here) (here.map hereP)
  | [], _ => .nil
  | z :: zs, h => .cons (.lst (SqL.of (h z (.head _))) (.cons (.int _) (.cons .non .nil))) (dp_here zs fun y hy => h y (.tail _ hy))
theorem here_lay : ∀ here : List (Addr × Row), PyData.canLayAll0 (here.map hereP) = true ∧ PyData.depthAll (here.map hereP) ≤ 1
  | [] => ⟨rfl, Nat.zero_le _⟩
  | z :: zs => by
    obtain ⟨h1, h2⟩ := here_lay zs
    refine ⟨?_, ?_⟩
    · show ((hereP z).canLay0 && PyData.canLayAll0 (zs.map hereP)) = true
      rw [h1]
      rfl
    · show max (hereP z).depth (PyData.depthAll (zs.map hereP)) ≤ 1
      have : (hereP z).depth = 1 := rfl
      omega
theorem here_shaped (here : List (Addr × Row)) : SeqAt.shaped (hereD here) = true := by
  obtain ⟨h1, h2⟩ := here_lay here
  show (PyData.canLayAll0 (here.map hereP) && decide (PyData.depthAll (here.map hereP) + 1 ≤ 64)) = true
  rw [h1, decide_eq_true (by omega)]
  rfl
theorem here_nil (here : List (Addr × Row)) : PyData.eqv (hereD here) (.list []) = decide (here = []) := by
  cases here with
  | nil => rfl
  | cons x r => rfl
theorem paired_app {α β : Type} {F : α → β → Prop} : ∀ {a c : List α} {b d : List β}, Paired F a b → Paired F c d → Paired F (a ++ c) (b ++ d)
  | _, _, _, _, .nil, h => h
  | _, _, _, _, .cons r t, h => .cons r (paired_app t h)
theorem mapPM {α β : Type} {F G : α → β → Prop} : ∀ {a : List α} {b : List β}, Paired F a b → (∀ x ∈ a, ∀ y ∈ b, F x y → G x y) → Paired G a b
  | _, _, .nil, _ => .nil
  | _, _, .cons r t, f => .cons (f _ (.head _) _ (.head _) r) (mapPM t fun x hx y hy => f x (.tail _ hx) y (.tail _ hy))
theorem dp_row {K : PySem.W.Frag} {H : Hp} {t : Addr} {q : Row} (h : H t = some (.tup [.int (q.1 : Int), endV q.2])) : Dp K H (.ref t) (rowD q) := by
  refine .tup (SqT.of h) (.cons (.int _) (.cons ?_ .nil))
  cases q.2 with
  | none => exact .non
  | some e => exact .int _
theorem dp_rows {K : PySem.W.Frag} {H : Hp} : ∀ {ts : List Addr} {rows : List Row}, Paired (fun (t : Addr) (q : Row) => H t = some (.tup [.int (q.1 : Int), endV q.2])) ts rows → DpAll K H (ts.map V.ref) (rows.map rowD)
  | _, _, .nil => .nil
  | _, _, .cons h t => .cons (dp_row h) (dp_rows t)
theorem rows_depth (rows : List Row) : (rowsD rows).depth ≤ 2 := by
  have h : ∀ rows : List Row, PyData.depthAll (rows.map rowD) ≤ 1 := fun rows => by
    induction rows with
    | nil => exact Nat.zero_le _
    | cons r rs ih =>
      show max (rowD r).depth (PyData.depthAll (rs.map rowD)) ≤ 1
      have : (rowD r).depth = 1 := by
        unfold rowD
        cases r.2 <;> rfl
      omega
  show PyData.depthAll (rows.map rowD) + 1 ≤ 2
  have := h rows
  omega
theorem rows_sm {rows : List Row} (hl : rows.length ≤ 100000) : smA (rowsD rows) := by
  have h : ∀ rows : List Row, smAll (rows.map rowD) := fun rows => by
    induction rows with
    | nil => exact True.intro
    | cons r rs ih =>
      refine ⟨?_, ih⟩
      unfold rowD
      refine ⟨(by show 2 ≤ 100000; decide), True.intro, ?_⟩
      cases r.2 with
      | none => exact ⟨True.intro, True.intro⟩
      | some e => exact ⟨True.intro, True.intro⟩
  exact ⟨by rw [List.length_map]; exact hl, h rows⟩
/-- walked_through: the ends by beginnings, the lone ends, those over another -/
def spWalk : Sp := fun vs H Q _ => ∃ (r : Addr) (ps : List Addr) (es : List Evt) (H0 : Hp), vs = [.ref r] ∧ Ex H0 H ∧ H0 r = some (.lst (ps.map V.ref)) ∧ Evs H0 ps (es.map Evt.v) ∧ es.length ≤ 1000 ∧
  ∀ (t a b c : Addr) (H' : Hp), Go (fun _ => False) H0 H H0 H' → H a = none → H b = none → H c = none → b ≠ c → H' t = some (.tup [.ref a, .ref b, .ref c]) → H' a = some (.dK (rowsK (walkN es es.length).rows)) →
    H' b = some (.lst (nums (walkN es es.length).alone)) → H' c = some (.lst (nums (walkN es es.length).above)) → Q (.ref t) H'
/-- the places that nothing ends -/
def hungN (rows : List Row) : List Nat := (rows.filter fun r => decide (r.2 = none)).map (·.1)
/-- a list of places, told of a track -/
def spTell (g : List Evt → List Nat) : Sp := fun vs H Q _ => ∃ (r : Addr) (ps : List Addr) (es : List Evt) (H0 : Hp), vs = [.ref r] ∧ Ex H0 H ∧ H0 r = some (.lst (ps.map V.ref)) ∧ Evs H0 ps (es.map Evt.v) ∧ es.length ≤ 1000 ∧
  ∀ (p : Addr) (H' : Hp), Go (fun _ => False) H0 H H0 H' → H p = none → H' p = some (.lst (nums (g es))) → Q (.ref p) H'
def gLone (es : List Evt) : List Nat := (walkN es es.length).alone
def gOver (es : List Evt) : List Nat := (walkN es es.length).above
def gHung (es : List Evt) : List Nat := hungN (walkN es es.length).rows
theorem hungN_snoc {rows : List Row} {j : Nat} {q : Row} (h : rows[j]? = some q) : hungN (rows.take (j + 1)) = if q.2 = none then hungN (rows.take j) ++ [q.1] else hungN (rows.take j) := by
  rw [take_snoc h]
  unfold hungN
  rw [List.filter_append, List.map_append]
  by_cases c : q.2 = none
  · rw [if_pos c, List.filter_cons_of_pos (p := fun r : Row => decide (r.2 = none)) (decide_eq_true c)]
    rfl
  · rw [if_neg c, List.filter_cons_of_neg (p := fun r : Row => decide (r.2 = none)) (by rw [decide_eq_false c]; exact Bool.false_ne_true)]
    exact List.append_nil _
theorem hungN_len (rows : List Row) : (hungN rows).length ≤ rows.length := by
  unfold hungN
  rw [List.length_map]
  exact List.length_filter_le _ _
theorem paired_at {α β : Type} {F : α → β → Prop} : ∀ {l : List α} {m : List β}, Paired F l m → ∀ {i : Nat} {x : α}, l[i]? = some x → ∃ y, m[i]? = some y ∧ F x y
  | _, _, .nil, i, x, h => by simp at h
  | _, _, .cons r t, 0, x, h => by
    cases h
    exact ⟨_, rfl, r⟩
  | _, _, .cons r t, i + 1, x, h => paired_at t (i := i) h
theorem dp_numsL {K : PySem.W.Frag} {H : Hp} {a : Addr} {l : List Nat} (h : H a = some (.lst (nums l))) : Dp K H (.ref a) (numsD l) := .lst (SqL.of h) (dp_nums l)
theorem numsD_ok {l : List Nat} (h : l.length ≤ 100000) : (numsD l).depth ≤ 1 ∧ smA (numsD l) := by
  have h1 : ∀ l : List Nat, PyData.depthAll (l.map fun (n : Nat) => PyData.int (n : Int)) = 0 ∧ smAll (l.map fun (n : Nat) => PyData.int (n : Int)) := fun l => by
    induction l with
    | nil => exact ⟨rfl, True.intro⟩
    | cons x xs ih =>
      refine ⟨?_, True.intro, ih.2⟩
      show max 0 (PyData.depthAll (xs.map fun (n : Nat) => PyData.int (n : Int))) = 0
      rw [ih.1]
      rfl
  refine ⟨?_, by rw [List.length_map]; exact h, (h1 l).2⟩
  show PyData.depthAll (l.map fun (n : Nat) => PyData.int (n : Int)) + 1 ≤ 1
  rw [(h1 l).1]
  exact Nat.le_refl _
end Rt

namespace Rt
open PySem PySem.Spec PyProof.Rows L2
/-! ### objects: making one, its methods, its length -/
/-- a class of the text, at C -/
structure ClsT (K : PySem.W.Frag) (mg : Str → Option Value) (x : Str) (C : Addr) : Prop where
  cl : Cls K C
  mks : PySem.W.makesIn K C = true
  kp : PySem.W.keepIn K (.ref C) = true
  mgC : mg x = some (.ref C)
section
variable {X : Cx} {CX : CXT} {x : Str} {p pos : Pos} {j k : Nat} {C f : Addr} {fd : FuncData} {ps : List Str} {sp : Sp}
theorem pe_new0 (c : C8.Mak X.prog X.w X.K X.mg X.base k x C sp []) (hr : Room j X.A) (hk : k + 1 ≤ j) (hg : Gl X x) (hdb : (x == ("__debug__" : Str)) = false := by decide) : PE X (.Call (.Name x p) [] [] pos) (tMake C sp [] E0 tNil) := by
  obtain ⟨f, fd, ps, ds, M, F, hm, b, d⟩ := c.ex
  exact pe_make0 M F (hr.mono hk) hg hm b d pass0 hdb
/-- a call of a def within a built-in, one frame deeper -/
theorem call_in1 {pins : List (Addr × Obj)} {σ : L2.St} {H : Hp} {s : Shared} {us : List Value} {vs : List V} {Q : VK} (F : FnOk X.prog X.w X.K X.mg X.base CX0 k f fd ps sp) (hr : Room (k + 1) X.A) (hb : Binds X.K fd ps []) (I : Inv X pins σ H s) (rv : Vals vs us) (h : sp vs H Q E0) {E' : Value → Shared → Prop} :
    wpAny (model X.prog X.w) X.A.in1 (call (.ref f) us) (EP X pins σ Q) E' s := by
  have hl : (us ++ []).length = ps.length := by
    rw [List.append_nil, ← F.len _ _ _ _ h, rv.length]
  refine wpAny_call (codeAny_mono (F.run X.A.in1 X.stack s H ⟨us, []⟩ (us ++ []) vs Q E0 hr.in1 I.env0.in1 (hb _ us I.kIn hl) (by rw [List.append_nil]; exact rv) h) fun r s' hq => ?_)
  cases r with
  | error er =>
    have z := (pass0 : Passes CX0 X.nox E0) pins σ H s er s' (I.wish _) hq
    exact False.elim z
  | ok fl =>
    cases fl with
    | ret u =>
      obtain ⟨v, H', I3, r3, q3⟩ := I.after hq
      exact ⟨v, H', I3, r3, q3⟩
    | next => exact False.elim hq
    | brk => exact False.elim hq
    | cont => exact False.elim hq
/-- len(o), by the class's own __len__ -/
def rLenO (C : Addr) (sp : Sp) : List V → Hp → VK → Prop := fun xs H Q => ∃ a dx fs, xs = [V.ref a] ∧ H a = some (.ins C dx fs) ∧ sp [.ref a] H (fun v H' => ∃ n : Int, v = .int n ∧ 0 ≤ n ∧ n < 2 ^ 63 ∧ Q (.int n) H') E0
theorem cr_lenO (M : Meth X.K C "__len__" f) (F : FnOk X.prog X.w X.K X.mg X.base CX0 k f fd ps sp) (hr : Room (k + 1) X.A) (hb : Binds X.K fd ps []) : CallR X (.builtin "len") (rLenO C sp) := by
  intro pins s σ H xs us Q I r h
  obtain ⟨a, dx, fs, rfl, ea, h⟩ := h
  obtain ⟨u, rfl, rx⟩ := vals1 r
  cases rx
  obtain ⟨mA, O, _⟩ := ins_get I.hok ea
  obtain ⟨od, J, _⟩ := O.look
  refine Calls.call_function_entry PySem.kind_len PySem.plain_len
    PySem.entry_len (PySem.args_len1 _) ?_
  unfold Builtin.«len»
  refine wpAny_bind (m := oneArg "len" _) (wpAny_pure ?_)
  have go := call_in1 (E' := X.xe) (us := [.ref a]) (vs := [.ref a]) F hr hb I (.cons rfl .nil) h
  refine wpAny_bind (m := callSpecial? (.ref a) (Str.ofString "__len__"))
    (PySem.W.special_fn I.kIn J M.at_ (beq_iff_eq.mp M.fn) (wpAny_mono go (fun v s' z => ?_) fun _ _ y => y))
  obtain ⟨v', H', I', rv, n, rfl, n0, n1, q⟩ := z
  obtain ⟨t, rfl⟩ : ∃ t, v = Value.int n t := rv
  refine wpAny_bind (wpAny_holding (wpAny_pure ?_))
  refine wpAny_bind (wpAny_letGo ?_)
  show wpAny _ _ (if n < 0 then _ else _) _ _ _
  rw [if_neg (by omega)]
  show wpAny _ _ (if n ≥ 2 ^ 63 then _ else _) _ _ _
  rw [if_neg (by omega)]
  refine wpAny_bind (wpAny_mkInt (wpAny_pure ⟨_, rfl, ?_⟩))
  exact ⟨.int n, H', I'.tok _, ⟨_, rfl⟩, q⟩
end
end Rt

namespace Rt
open PySem PySem.Spec PyProof.Rows L2 RZ TL LamX
/-! ### rows of numbers -/
/-- rows of numbers stand as tuples at the addresses -/
def Rws (G : Hp) (qs : List Addr) (rs : List (List Int)) : Prop := Paired (fun q ns => G q = some (.tup (ns.map V.int))) qs rs
theorem Rws.up {G G' : Hp} {qs : List Addr} {rs : List (List Int)} (h : Rws G qs rs) (x : Ex G G') : Rws G' qs rs := Paired.mapP h fun _ _ z => x _ _ z
theorem Rws.len {G : Hp} {qs : List Addr} {rs : List (List Int)} (h : Rws G qs rs) : qs.length = rs.length := Paired.length h
theorem pairedApp {α β : Type} {F : α → β → Prop} : ∀ {a c : List α} {b d : List β}, Paired F a b → Paired F c d → Paired F (a ++ c) (b ++ d)
  | _, _, _, _, .nil, h => h
  | _, _, _, _, .cons r t, h => .cons r (pairedApp t h)
theorem pairedTake {α β : Type} {F : α → β → Prop} : ∀ {a : List α} {b : List β} (n : Nat), Paired F a b → Paired F (a.take n) (b.take n)
  | _, _, 0, _ => .nil
  | _, _, n + 1, .nil => .nil
  | _, _, n + 1, .cons r t => .cons r (pairedTake n t)
theorem pairedDrop {α β : Type} {F : α → β → Prop} : ∀ {a : List α} {b : List β} (n : Nat), Paired F a b → Paired F (a.drop n) (b.drop n)
  | _, _, 0, h => h
  | _, _, n + 1, .nil => .nil
  | _, _, n + 1, .cons r t => pairedDrop n t
theorem pairedAt {α β : Type} {F : α → β → Prop} : ∀ {l : List α} {m : List β}, Paired F l m → ∀ {i : Nat} {x : α}, l[i]? = some x → ∃ y, m[i]? = some y ∧ F x y
  | _, _, .nil, i, x, h => by simp at h
  | _, _, .cons r t, 0, x, h => by
    cases h
    exact ⟨_, rfl, r⟩
  | _, _, .cons r t, i + 1, x, h => pairedAt t (i := i) h
/-- the rows of a thing: what stands behind its word -/
def Evt.row : Evt → List Int
  | .key _ _ c k f => [c, k, f]
  | .knob _ c k v => [c, k, v]
  | .voice _ c v => [c, v]
  | .mark .. => []
def rck (r : List Int) : Int × Int := (r.getD 0 0, r.getD 1 0)
def leCK (a b : Int × Int) : Bool := decide (a.1 < b.1 ∨ a.1 = b.1 ∧ a.2 ≤ b.2)
def delF (p : List Int → Bool) : List (List Int) → List (List Int)
  | [] => []
  | x :: xs => if p x = true then xs else x :: delF p xs
theorem delF_none {p : List Int → Bool} : ∀ {S : List (List Int)}, (∀ x ∈ S, p x = false) → delF p S = S
  | [], _ => rfl
  | x :: xs, h => by
    unfold delF
    rw [if_neg (by rw [h x (.head _)]; exact Bool.false_ne_true), delF_none fun y hy => h y (.tail _ hy)]
theorem delF_at {p : List Int → Bool} : ∀ {S : List (List Int)} {i : Nat} {x : List Int}, S[i]? = some x → p x = true → (∀ y ∈ S.take i, p y = false) → delF p S = S.take i ++ S.drop (i + 1)
  | [], i, x, h, _, _ => by simp at h
  | y :: ys, 0, x, h, hp, _ => by
    cases h
    unfold delF
    rw [if_pos hp]
    rfl
  | y :: ys, i + 1, x, h, hp, hn => by
    unfold delF
    rw [if_neg (by rw [hn y (.head _)]; exact Bool.false_ne_true), delF_at (S := ys) (i := i) (x := x) h hp fun z hz => hn z (.tail _ hz)]
    rfl
/-- what sounds behind one thing more -/
def insN (S : List (List Int)) (r : List Int) : List (List Int) := let n := (S.filter fun x => leCK (rck x) (rck r)).length; S.take n ++ [r] ++ S.drop n
def sndA (S : List (List Int)) : Evt → List (List Int)
  | .key true _ c k f => insN S [c, k, f]
  | .key false _ c k _ => delF (fun x => decide (rck x = (c, k))) S
  | _ => S
/-- rising rows -/
def leR (a b : List Int) : Bool := decide (TS.code 128 a ≤ TS.code 128 b)
def srt (rs : List (List Int)) : List (List Int) := rs.mergeSort leR
/-- what is set behind one thing more -/
def setA (rs : List (List Int)) (r : List Int) : List (List Int) := let kept := rs.filter fun x => decide (x.dropLast ≠ r.dropLast); if r.getLastD 0 = 0 then kept else srt (kept ++ [r])
structure Sta where
  snd : List (List Int)
  knb : List (List Int)
  voi : List (List Int)
def Sta.nil : Sta := ⟨[], [], []⟩
def Sta.after (s : Sta) (e : Evt) : Sta :=
  ⟨sndA s.snd e, (match e with | .knob .. => setA s.knb e.row | _ => s.knb), (match e with | .voice .. => setA s.voi e.row | _ => s.voi)⟩
/-- each row has d numbers from 0 to 127 -/
def RowsB (d : Nat) (rs : List (List Int)) : Prop := ∀ r ∈ rs, r.length = d ∧ TS.Bd 128 r
structure Sta.Ok (s : Sta) (n : Nat) : Prop where
  b1 : RowsB 3 s.snd
  b2 : RowsB 3 s.knb
  b3 : RowsB 2 s.voi
  l1 : s.snd.length ≤ n
  l2 : s.knb.length ≤ n
  l3 : s.voi.length ≤ n
theorem Evt.Ok.row {e : Evt} (h : e.Ok) : TS.Bd 128 e.row := by
  intro m hm
  cases e with
  | key b t c k f =>
    have h4 : low b ≤ f ∧ f ≤ 127 := h.2.2.2
    have h5 : (0 : Int) ≤ low b := by cases b <;> decide
    simp only [Evt.row, List.mem_cons, List.mem_nil_iff, or_false] at hm
    rcases hm with rfl | rfl | rfl
    · exact ⟨h.2.1.1, by have := h.2.1.2; omega⟩
    · exact ⟨h.2.2.1.1, by have := h.2.2.1.2; omega⟩
    · exact ⟨by omega, by omega⟩
  | knob t c k v =>
    simp only [Evt.row, List.mem_cons, List.mem_nil_iff, or_false] at hm
    rcases hm with rfl | rfl | rfl
    · exact ⟨h.2.1.1, by have := h.2.1.2; omega⟩
    · exact ⟨h.2.2.1.1, by have := h.2.2.1.2; omega⟩
    · exact ⟨h.2.2.2.1, by have := h.2.2.2.2; omega⟩
  | voice t c v =>
    simp only [Evt.row, List.mem_cons, List.mem_nil_iff, or_false] at hm
    rcases hm with rfl | rfl
    · exact ⟨h.2.1.1, by have := h.2.1.2; omega⟩
    · exact ⟨h.2.2.1, by have := h.2.2.2; omega⟩
  | mark t s => exact nomatch hm
theorem RowsB.filter {d : Nat} {rs : List (List Int)} (h : RowsB d rs) (p : List Int → Bool) : RowsB d (rs.filter p) := fun r hr => h r (List.mem_filter.mp hr).1
theorem RowsB.app {d : Nat} {rs qs : List (List Int)} (h : RowsB d rs) (h2 : RowsB d qs) : RowsB d (rs ++ qs) := fun r hr => (List.mem_append.mp hr).elim (h r) (h2 r)
theorem RowsB.one {d : Nat} {r : List Int} (h : r.length = d) (h2 : TS.Bd 128 r) : RowsB d [r] := fun x hx => by rw [List.mem_singleton.mp hx]; exact ⟨h, h2⟩
theorem RowsB.sub {d : Nat} {rs qs : List (List Int)} (h : RowsB d rs) (x : ∀ r ∈ qs, r ∈ rs) : RowsB d qs := fun r hr => h r (x r hr)
theorem delF_sub (p : List Int → Bool) : ∀ (S : List (List Int)) (r : List Int), r ∈ delF p S → r ∈ S
  | [], r, h => h
  | x :: xs, r, h => by
    unfold delF at h
    split at h
    · exact .tail _ h
    · rcases List.mem_cons.mp h with rfl | h
      · exact .head _
      · exact .tail _ (delF_sub p xs r h)
theorem delF_len (p : List Int → Bool) : ∀ (S : List (List Int)), (delF p S).length ≤ S.length
  | [] => Nat.le_refl _
  | x :: xs => by
    unfold delF
    split
    · exact Nat.le_succ _
    · exact Nat.succ_le_succ (delF_len p xs)
theorem insN_mem {S : List (List Int)} {r x : List Int} : x ∈ insN S r ↔ x = r ∨ x ∈ S := by
  unfold insN
  dsimp only
  generalize (S.filter fun x => leCK (rck x) (rck r)).length = n
  rw [List.append_assoc, List.mem_append, List.mem_append, List.mem_singleton]
  refine ⟨fun h => ?_, fun h => ?_⟩
  · rcases h with h | h | h
    · exact .inr (List.mem_of_mem_take h)
    · exact .inl h
    · exact .inr (List.mem_of_mem_drop h)
  · rcases h with h | h
    · exact .inr (.inl h)
    · rw [← List.take_append_drop n S, List.mem_append] at h
      exact h.elim .inl fun z => .inr (.inr z)
theorem insN_len (S : List (List Int)) (r : List Int) : (insN S r).length = S.length + 1 := by
  unfold insN
  dsimp only
  generalize (S.filter fun x => leCK (rck x) (rck r)).length = n
  rw [List.length_append, List.length_append, List.length_take, List.length_drop, List.length_singleton]
  omega
theorem srt_mem {rs : List (List Int)} {r : List Int} : r ∈ srt rs ↔ r ∈ rs := (List.mergeSort_perm rs leR).mem_iff
theorem srt_len (rs : List (List Int)) : (srt rs).length = rs.length := (List.mergeSort_perm rs leR).length_eq
theorem setA_ok {d n : Nat} {rs : List (List Int)} {r : List Int} (h : RowsB d rs) (hr : r.length = d) (hb : TS.Bd 128 r) (hl : rs.length ≤ n) : RowsB d (setA rs r) ∧ (setA rs r).length ≤ n + 1 := by
  unfold setA
  dsimp only
  have l := List.length_filter_le (fun x => decide (x.dropLast ≠ r.dropLast)) rs
  split
  · exact ⟨h.filter _, by omega⟩
  · refine ⟨((h.filter _).app (.one hr hb)).sub fun x hx => srt_mem.mp hx, ?_⟩
    rw [srt_len, List.length_append, List.length_singleton]
    omega
theorem Sta.Ok.after {s : Sta} {n : Nat} {e : Evt} (h : s.Ok n) (he : e.Ok) : (s.after e).Ok (n + 1) := by
  have hb := he.row
  have sn : RowsB 3 (sndA s.snd e) ∧ (sndA s.snd e).length ≤ n + 1 := by
    cases e with
    | key b t c k f =>
      cases b with
      | true => exact ⟨fun x hx => (insN_mem.mp hx).elim (fun z => by rw [z]; exact ⟨rfl, hb⟩) (h.b1 x), by show (insN _ _).length ≤ _; rw [insN_len]; have := h.l1; omega⟩
      | false => exact ⟨h.b1.sub (delF_sub _ _), Nat.le_succ_of_le (Nat.le_trans (delF_len _ _) h.l1)⟩
    | knob t c k v => exact ⟨h.b1, Nat.le_succ_of_le h.l1⟩
    | voice t c v => exact ⟨h.b1, Nat.le_succ_of_le h.l1⟩
    | mark t x => exact ⟨h.b1, Nat.le_succ_of_le h.l1⟩
  cases e with
  | key b t c k f => exact ⟨sn.1, h.b2, h.b3, sn.2, Nat.le_succ_of_le h.l2, Nat.le_succ_of_le h.l3⟩
  | knob t c k v =>
    have z := setA_ok (r := [c, k, v]) h.b2 rfl hb h.l2
    exact ⟨sn.1, z.1, h.b3, sn.2, z.2, Nat.le_succ_of_le h.l3⟩
  | voice t c v =>
    have z := setA_ok (r := [c, v]) h.b3 rfl hb h.l3
    exact ⟨sn.1, h.b2, z.1, sn.2, Nat.le_succ_of_le h.l2, z.2⟩
  | mark t x => exact ⟨sn.1, h.b2, h.b3, sn.2, Nat.le_succ_of_le h.l2, Nat.le_succ_of_le h.l3⟩
theorem Sta.Ok.nil : Sta.nil.Ok 0 := ⟨(fun _ h => nomatch h), (fun _ h => nomatch h), (fun _ h => nomatch h), Nat.le_refl _, Nat.le_refl _, Nat.le_refl _⟩
/-- the order of tuples of two -/
theorem le_pair (a b c d : Int) : Ob.lexAt (fun j => decide (([a, b] : List Int).getD j 0 = ([c, d] : List Int).getD j 0)) (fun j => decide (([a, b] : List Int).getD j 0 ≤ ([c, d] : List Int).getD j 0)) (decide (([a, b] : List Int).length ≤ ([c, d] : List Int).length)) 0 (min ([a, b] : List Int).length ([c, d] : List Int).length) = leCK (a, b) (c, d) := by
  show (if decide (a = c) = true then (if decide (b = d) = true then true else decide (b ≤ d)) else decide (a ≤ c)) = decide (a < c ∨ a = c ∧ b ≤ d)
  by_cases h1 : a = c
  · rw [if_pos (decide_eq_true h1)]
    by_cases h2 : b = d
    · rw [if_pos (decide_eq_true h2), decide_eq_true (.inr ⟨h1, by omega⟩)]
    · rw [if_neg (fun z => h2 (of_decide_eq_true z))]
      by_cases h3 : b ≤ d
      · rw [decide_eq_true h3, decide_eq_true (.inr ⟨h1, h3⟩)]
      · rw [decide_eq_false h3, decide_eq_false (fun z => z.elim (by omega) fun y => h3 y.2)]
  · rw [if_neg (fun z => h1 (of_decide_eq_true z))]
    by_cases h3 : a ≤ c
    · rw [decide_eq_true h3, decide_eq_true (.inl (by omega))]
    · rw [decide_eq_false h3, decide_eq_false (fun z => z.elim (by omega) fun y => h1 y.1)]
/-! ### sorted rows -/
theorem code_inj : ∀ {r q : List Int}, r.length = q.length → TS.Bd 128 r → TS.Bd 128 q → TS.code 128 r = TS.code 128 q → r = q
  | [], [], _, _, _, _ => rfl
  | x :: r, y :: q, hl, hr, hq, e => by
    have hl' : r.length = q.length := by simpa using hl
    rcases Int.lt_trichotomy x y with h | h | h
    · have := TS.code_lt hl' hr.tail hq.tail h
      omega
    · subst h
      have e' : TS.code 128 r = TS.code 128 q := by
        have e : x * 128 ^ r.length + TS.code 128 r = x * 128 ^ q.length + TS.code 128 q := e
        rw [hl'] at e
        omega
      rw [code_inj hl' hr.tail hq.tail e']
    · have := TS.code_lt hl'.symm hq.tail hr.tail h
      omega
theorem srt_sorted (rs : List (List Int)) : (srt rs).Pairwise fun a b => TS.code 128 a ≤ TS.code 128 b := by
  have := List.pairwise_mergeSort (le := leR) (fun a b c h1 h2 => decide_eq_true (Int.le_trans (of_decide_eq_true h1) (of_decide_eq_true h2))) (fun a b => by
    unfold leR
    rcases Int.le_total (TS.code 128 a) (TS.code 128 b) with h | h
    · rw [decide_eq_true h]; rfl
    · rw [decide_eq_true h, Bool.or_true]) rs
  exact this.imp fun h => of_decide_eq_true h
/-- what is sorted is the sorted one -/
theorem srt_eq {d : Nat} {rs ys : List (List Int)} (hb : RowsB d rs) (hp : ys.Perm rs) (hs : ys.Pairwise fun a b => TS.code 128 a ≤ TS.code 128 b) : ys = srt rs := by
  refine List.Perm.eq_of_pairwise (le := fun a b => TS.code 128 a ≤ TS.code 128 b) (fun a b ha hb' h1 h2 => ?_) hs (srt_sorted rs) (hp.trans (List.mergeSort_perm rs leR).symm)
  have ra := hb a (hp.mem_iff.mp ha)
  have rb := hb b (srt_mem.mp hb')
  exact code_inj (by rw [ra.1, rb.1]) ra.2 rb.2 (Int.le_antisymm h1 h2)
theorem _root_.Rt.ne_sy {α : Type} {a b : α} (h : ¬ a = b) : ¬ b = a := fun z => h z.symm
theorem eqvAll_ints : ∀ ns ms : List Int, PyData.eqvAll (ns.map PyData.int) (ms.map PyData.int) = decide (ns = ms)
  | [], [] => by simp [PyData.eqvAll]
  | [], _ :: _ => by simp [PyData.eqvAll]
  | _ :: _, [] => by simp [PyData.eqvAll]
  | a :: r, b :: t => by
    simp only [List.map_cons, PyData.eqvAll, PyData.eqv, eqvAll_ints r t]
    by_cases h : a = b <;> by_cases h2 : r = t <;> simp [h, h2]
theorem eqv_tup (ns ms : List Int) : PyData.eqv (.tuple (ns.map PyData.int)) (.tuple (ms.map PyData.int)) = decide (ns = ms) := by
  rw [PyData.eqv]
  exact eqvAll_ints ns ms
theorem shaped_tup (r : List Int) : SeqAt.shaped (.tuple (r.map PyData.int)) = true := PySem.W.ke_shaped_ints r
theorem dp_ints {K : PySem.W.Frag} {H : Hp} : ∀ r : List Int, DpAll K H (r.map V.int) (r.map PyData.int)
  | [] => .nil
  | _ :: r => .cons (.int _) (dp_ints r)
theorem dp_tupI {K : PySem.W.Frag} {H : Hp} {a : Addr} {r : List Int} (h : SqT K H a (r.map V.int)) : Dp K H (.ref a) (.tuple (r.map PyData.int)) := .tup h (dp_ints r)
theorem sIx_neg1 (n : Nat) : HT.sIx n n (some (-1)) = n - 1 := by
  show ((-1 : Int) + (n : Int)).toNat = n - 1
  omega
theorem cut_last (r : List Int) : cutV (r.map V.int) none (some (-1)) = r.dropLast.map V.int := by
  unfold cutV
  rw [sIx_neg1, List.length_map]
  show (List.drop 0 (r.map V.int)).take (r.length - 1 - 0) = _
  rw [List.drop_zero, Nat.sub_zero, ← List.map_take, List.dropLast_eq_take]
def intV : V → Int
  | .int i => i
  | _ => 0
def adr : V → Addr
  | .ref q => q
  | _ => 0
def rowOf (G : Hp) (v : V) : List Int := match G (adr v) with
  | some (.tup vs) => vs.map intV
  | _ => []
theorem rowOf_eq {G : Hp} {q : Addr} {ns : List Int} (h : G q = some (.tup (ns.map V.int))) : rowOf G (.ref q) = ns := by
  show (match G q with | some (.tup vs) => vs.map intV | _ => []) = ns
  rw [h]
  dsimp only
  rw [List.map_map]
  exact (List.map_congr_left fun _ _ => rfl).trans (List.map_id ns)
theorem rws_map {G : Hp} : ∀ {qs : List Addr} {rs : List (List Int)}, Rws G qs rs → (qs.map V.ref).map (rowOf G) = rs
  | _, _, .nil => rfl
  | _, _, .cons h t => by
    rw [List.map_cons, List.map_cons, rowOf_eq h, rws_map t]
theorem rws_mem {G : Hp} : ∀ {qs : List Addr} {rs : List (List Int)}, Rws G qs rs → ∀ v ∈ qs.map V.ref, ∃ (q : Addr) (ns : List Int), v = V.ref q ∧ G q = some (.tup (ns.map V.int)) ∧ ns ∈ rs
  | _, _, .nil, v, h => nomatch h
  | _, _, .cons h t, v, hv => by
    rcases List.mem_cons.mp hv with e | hv
    · exact ⟨_, _, e, h, .head _⟩
    · obtain ⟨q, ns, e, h1, h2⟩ := rws_mem t v hv
      exact ⟨q, ns, e, h1, .tail _ h2⟩
theorem rws_of {G : Hp} : ∀ ys : List V, (∀ v ∈ ys, ∃ (q : Addr) (ns : List Int), v = V.ref q ∧ G q = some (.tup (ns.map V.int))) → ys = (ys.map adr).map V.ref ∧ Rws G (ys.map adr) (ys.map (rowOf G))
  | [], _ => ⟨rfl, .nil⟩
  | v :: ys, h => by
    obtain ⟨h1, h2⟩ := rws_of ys fun u hu => h u (.tail _ hu)
    obtain ⟨q, ns, rfl, hq⟩ := h v (.head _)
    refine ⟨by rw [List.map_cons, List.map_cons, ← h1]; rfl, ?_⟩
    rw [List.map_cons, List.map_cons, rowOf_eq hq]
    exact .cons hq h2
/-- sorted references are those of the sorted rows -/
theorem sorted_rows {K : PySem.W.Frag} {G H : Hp} {d : Nat} {qs : List Addr} {rs : List (List Int)} {ys : List V} (h : Rws G qs rs) (hb : RowsB d rs) (e : Ex G H) (hp : ys.Perm (qs.map V.ref)) (hs : ys.Pairwise fun x y => ∀ n m, TupI K H x n → TupI K H y m → TS.code 128 n ≤ TS.code 128 m) :
    ∃ ks, ys = ks.map V.ref ∧ Rws G ks (srt rs) := by
  have mem : ∀ v ∈ ys, ∃ (q : Addr) (ns : List Int), v = V.ref q ∧ G q = some (.tup (ns.map V.int)) := fun v hv => by
    obtain ⟨q, ns, h1, h2, _⟩ := rws_mem h v (hp.mem_iff.mp hv)
    exact ⟨q, ns, h1, h2⟩
  obtain ⟨h1, h2⟩ := rws_of ys mem
  refine ⟨ys.map adr, h1, ?_⟩
  have pm : (ys.map (rowOf G)).Perm rs := by
    have := hp.map (rowOf G)
    rwa [rws_map h] at this
  have ps : (ys.map (rowOf G)).Pairwise fun a b => TS.code 128 a ≤ TS.code 128 b := by
    rw [List.pairwise_map]
    refine hs.imp_of_mem fun {a b} ha hb' z => ?_
    obtain ⟨q, ns, rfl, hq⟩ := mem a ha
    obtain ⟨q2, ns2, rfl, hq2⟩ := mem b hb'
    rw [rowOf_eq hq, rowOf_eq hq2]
    exact z _ _ ⟨q, rfl, SqT.of (e _ _ hq)⟩ ⟨q2, rfl, SqT.of (e _ _ hq2)⟩
  rw [← srt_eq hb pm ps]
  exact h2
/-- a thing in memory: an event's tuple without its tick -/
def Evt.th (e : Evt) : List V := e.v.drop 1
theorem last_row {e : Evt} (h : 1 ≤ e.row.length) : ∃ j : Nat, e.th[j]? = some (.int (e.row.getLastD 0)) ∧ j + 1 = e.th.length := by
  cases e with
  | key b t c k f => exact ⟨3, rfl, rfl⟩
  | knob t c k v => exact ⟨3, rfl, rfl⟩
  | voice t c v => exact ⟨2, rfl, rfl⟩
  | mark t x => exact absurd h (by show ¬ 1 ≤ 0; decide)
theorem th_row {e : Evt} (h : 1 ≤ e.row.length) : cutV e.th (some 1) none = e.row.map V.int := by
  cases e with
  | key b t c k f => rfl
  | knob t c k v => rfl
  | voice t c v => rfl
  | mark t x => exact absurd h (by show ¬ 1 ≤ 0; decide)
/-! ### a stand in memory -/
abbrev fS : Str := "_sounds"
abbrev fK : Str := "_knobs"
abbrev fV : Str := "_voices"
theorem nSK : ¬ (fS = fK) := by decide +kernel
theorem nSV : ¬ (fS = fV) := by decide +kernel
theorem nKV : ¬ (fK = fV) := by decide +kernel
def flds (x y z : V) : List (Str × V) := [(fS, x), (fK, y), (fV, z)]
theorem flds1 (x : V) : putF fS x [] = [(fS, x)] := rfl
theorem flds2 (x y : V) : putF fK y [(fS, x)] = [(fS, x), (fK, y)] := by
  show (if fS = fK then _ else (fS, x) :: putF fK y []) = _
  rw [if_neg nSK]
  rfl
theorem flds3 (x y z : V) : putF fV z [(fS, x), (fK, y)] = flds x y z := by
  show (if fS = fV then _ else (fS, x) :: (if fK = fV then _ else (fK, y) :: putF fV z [])) = _
  rw [if_neg nSV, if_neg nKV]
  rfl
theorem put_s (x y z u : V) : putF fS u (flds x y z) = flds u y z := by
  show (if fS = fS then (fS, u) :: _ else _) = _
  rw [if_pos rfl]
  rfl
theorem put_k (x y z u : V) : putF fK u (flds x y z) = flds x u z := by
  show (if fS = fK then _ else (fS, x) :: (if fK = fK then (fK, u) :: _ else _)) = _
  rw [if_neg nSK, if_pos rfl]
  rfl
theorem put_v (x y z u : V) : putF fV u (flds x y z) = flds x y u := by
  show (if fS = fV then _ else (fS, x) :: (if fK = fV then _ else (fK, y) :: (if fV = fV then (fV, u) :: _ else _))) = _
  rw [if_neg nSV, if_neg nKV, if_pos rfl]
  rfl
theorem flds_chain (x y z : V) : flds x y z = putF fV z (putF fK y (putF fS x [])) := by rw [flds1, flds2, flds3]
theorem look_s (x y z : V) : (flds x y z).lookup fS = some x := by
  rw [flds_chain, lookup_putF, if_neg nSV, lookup_putF, if_neg nSK, lookup_putF, if_pos rfl]
theorem look_k (x y z : V) : (flds x y z).lookup fK = some y := by
  rw [flds_chain, lookup_putF, if_neg nKV, lookup_putF, if_pos rfl]
theorem look_v (x y z : V) : (flds x y z).lookup fV = some z := by
  rw [flds_chain, lookup_putF, if_pos rfl]
theorem look_no (x y z : V) {m : Str} (h1 : ¬ m = fS) (h2 : ¬ m = fK) (h3 : ¬ m = fV) : (flds x y z).lookup m = none := by
  rw [flds_chain, lookup_putF, if_neg h3, lookup_putF, if_neg h2, lookup_putF, if_neg h1]
  rfl
/-- a Stand stands at a, settled -/
def StaAt (C : Addr) (G : Hp) (a : Addr) (s : Sta) : Prop := ∃ (dx l1 l2 l3 : Addr) (q1 q2 q3 : List Addr), G a = some (.ins C dx (flds (.ref l1) (.ref l2) (.ref l3))) ∧ G l1 = some (.lst (q1.map V.ref)) ∧ G l2 = some (.lst (q2.map V.ref)) ∧ G l3 = some (.lst (q3.map V.ref)) ∧
  Rws G q1 s.snd ∧ Rws G q2 s.knb ∧ Rws G q3 s.voi
theorem StaAt.up {C : Addr} {G G' : Hp} {a : Addr} {s : Sta} (h : StaAt C G a s) (x : Ex G G') : StaAt C G' a s := by
  obtain ⟨dx, l1, l2, l3, q1, q2, q3, h0, h1, h2, h3, r1, r2, r3⟩ := h
  exact ⟨dx, l1, l2, l3, q1, q2, q3, x _ _ h0, x _ _ h1, x _ _ h2, x _ _ h3, r1.up x, r2.up x, r3.up x⟩
/-- what the text's class Stand is -/
structure StandT (K : PySem.W.Frag) (C : Addr) : Prop where
  cl : Cls K C
  ns : NoAttr K C "_sounds"
  nk : NoAttr K C "_knobs"
  nv : NoAttr K C "_voices"
/-! ### the promises -/
def spSnd : Sp := fun vs H Q _ => ∃ (l t : Addr) (qs : List Addr) (S : List (List Int)) (e : Evt) (H0 : Hp), vs = [.ref l, .ref t] ∧ Ex H0 H ∧ H0 l = some (.lst (qs.map V.ref)) ∧ Rws H0 qs S ∧ RowsB 3 S ∧ H0 t = some (.tup e.th) ∧ S.length ≤ 1000 ∧
  ∀ (p : Addr) (qs' : List Addr) (G H' : Hp), Go (fun _ => False) H0 H G H' → G p = some (.lst (qs'.map V.ref)) → Rws G qs' (sndA S e) → Q (.ref p) H'
def spSet (d : Nat) (ok : Evt → Prop) : Sp := fun vs H Q _ => ∃ (l t : Addr) (qs : List Addr) (S : List (List Int)) (e : Evt) (H0 : Hp), vs = [.ref l, .ref t] ∧ Ex H0 H ∧ H0 l = some (.lst (qs.map V.ref)) ∧ Rws H0 qs S ∧ RowsB d S ∧ H0 t = some (.tup e.th) ∧ ok e ∧ e.Ok ∧ e.row.length = d ∧ S.length ≤ 62 ∧
  ∀ (p : Addr) (qs' : List Addr) (G H' : Hp), Go (fun _ => False) H0 H G H' → G p = some (.lst (qs'.map V.ref)) → Rws G qs' (setA S e.row) → Q (.ref p) H'
def spAfter (C : Addr) : Sp := fun vs H Q _ => ∃ (a t : Addr) (s : Sta) (n : Nat) (e : Evt) (H0 : Hp), vs = [.ref a, .ref t] ∧ Ex H0 H ∧ StaAt C H0 a s ∧ s.Ok n ∧ n ≤ 62 ∧ H0 t = some (.tup e.th) ∧ e.Ok ∧
  ∀ (b : Addr) (G H' : Hp), Go (fun _ => False) H0 H G H' → H b = none → StaAt C G b (s.after e) → Q (.ref b) H'
def spTold (C : Addr) (f : Sta → List (List Int)) : Sp := fun vs H Q _ => ∃ (a : Addr) (s : Sta) (H0 : Hp), vs = [.ref a] ∧ Ex H0 H ∧ StaAt C H0 a s ∧
  ∀ (p : Addr) (qs : List Addr) (H' : Hp), Go (fun _ => False) H0 H H0 H' → H p = none → H' p = some (.lst (qs.map V.ref)) → Rws H0 qs (f s) → Q (.ref p) H'
def spSLen (C : Addr) : Sp := fun vs H Q _ => ∃ (a : Addr) (s : Sta) (H0 : Hp), vs = [.ref a] ∧ Ex H0 H ∧ StaAt C H0 a s ∧ Q (.int ((s.snd.length : Nat) : Int)) H
def spNew (C : Addr) : Sp := fun vs H Q _ => ∃ (x dx : Addr) (H0 : Hp), vs = [.ref x] ∧ Ex H0 H ∧ H x = some (.ins C dx []) ∧ H0 x = none ∧
  ∀ (l1 l2 l3 : Addr) (H' : Hp), Go (· = x) H0 H H0 H' → H' x = some (.ins C dx (flds (.ref l1) (.ref l2) (.ref l3))) → H' l1 = some (.lst []) → H' l2 = some (.lst []) → H' l3 = some (.lst []) → H l1 = none → H l2 = none → H l3 = none → l1 ≠ l2 → l1 ≠ l3 → l2 ≠ l3 → Q .non H'
/-- the stand behind some events, and at a tick -/
def behind (es : List Evt) : Sta := es.foldl Sta.after Sta.nil
def upTo (es : List Evt) (tk : Int) : List Evt := es.filter fun e => decide (e.tick ≤ tk)
def staAt (es : List Evt) (tk : Int) : Sta := behind (upTo es tk)
theorem behind_snoc (es : List Evt) (e : Evt) : behind (es ++ [e]) = (behind es).after e := by
  unfold behind
  rw [List.foldl_append]
  rfl
theorem behind_ok : ∀ (es : List Evt), (∀ e ∈ es, e.Ok) → (behind es).Ok es.length := by
  intro es
  have key : ∀ (es : List Evt) (s : Sta) (n : Nat), s.Ok n → (∀ e ∈ es, e.Ok) → (es.foldl Sta.after s).Ok (n + es.length) := by
    intro es
    induction es with
    | nil => intro s n h _; exact h
    | cons x xs ih =>
      intro s n h hx
      have := ih (s.after x) (n + 1) (h.after (hx x (.head _))) fun e he => hx e (.tail _ he)
      rw [List.length_cons, show n + (xs.length + 1) = n + 1 + xs.length by omega]
      exact this
  intro h
  have := key es Sta.nil 0 Sta.Ok.nil h
  rwa [Nat.zero_add] at this
theorem upTo_snoc {es : List Evt} {j : Nat} {e : Evt} {tk : Int} (h : es[j]? = some e) : upTo (es.take (j + 1)) tk = if e.tick ≤ tk then upTo (es.take j) tk ++ [e] else upTo (es.take j) tk := by
  rw [take_snoc h]
  unfold upTo
  rw [List.filter_append]
  by_cases c : e.tick ≤ tk
  · rw [if_pos c, List.filter_cons_of_pos (p := fun e : Evt => decide (e.tick ≤ tk)) (a := e) (decide_eq_true c)]
    rfl
  · rw [if_neg c, List.filter_cons_of_neg (p := fun e : Evt => decide (e.tick ≤ tk)) (a := e) (by rw [decide_eq_false c]; exact Bool.false_ne_true)]
    exact List.append_nil _
theorem Sta.Ok.mono {s : Sta} {n m : Nat} (h : s.Ok n) (hm : n ≤ m) : s.Ok m := ⟨h.b1, h.b2, h.b3, Nat.le_trans h.l1 hm, Nat.le_trans h.l2 hm, Nat.le_trans h.l3 hm⟩
def spTick : Sp := fun vs H Q _ => ∃ t : Int, vs = [.int t] ∧ 0 ≤ t ∧ t ≤ 999999 ∧ Q .non H
def spStandAt (C : Addr) : Sp := fun vs H Q _ => ∃ (r : Addr) (tk : Int) (ps : List Addr) (es : List Evt) (H0 : Hp), vs = [.ref r, .int tk] ∧ Ex H0 H ∧ H0 r = some (.lst (ps.map V.ref)) ∧ Evs H0 ps (es.map Evt.v) ∧ es.length ≤ 62 ∧ (∀ e ∈ es, e.Ok) ∧ 0 ≤ tk ∧ tk ≤ 999999 ∧
  ∀ (a : Addr) (G H' : Hp), Go (fun _ => False) H0 H G H' → H a = none → StaAt C G a (staAt es tk) → Q (.ref a) H'
theorem cut_th (e : Evt) : cutV e.v (some 1) none = e.th := by cases e <;> rfl
theorem v_tick (e : Evt) : e.v[0]? = some (.int e.tick) := by cases e <;> rfl
theorem v_len (e : Evt) : 1 < e.v.length := by cases e <;> simp [Evt.v]
/-- a new stand is settled -/
theorem settle_new {C x dx m1 m2 m3 : Addr} {H0 B H1 : Hp} (g : Go (fun _ => False) H0 B H0 H1) (hx : H1 x = some (.ins C dx (flds (.ref m1) (.ref m2) (.ref m3)))) (h1 : H1 m1 = some (.lst [])) (h2 : H1 m2 = some (.lst [])) (h3 : H1 m3 = some (.lst []))
    (fx : B x = none) (f1 : B m1 = none) (f2 : B m2 = none) (f3 : B m3 = none) (zx : H0 x = none) (z1 : H0 m1 = none) (z2 : H0 m2 = none) (z3 : H0 m3 = none) (x1 : x ≠ m1) (x2 : x ≠ m2) (x3 : x ≠ m3) (d12 : m1 ≠ m2) (d13 : m1 ≠ m3) (d23 : m2 ≠ m3) :
    ∃ G, Go (fun _ => False) H0 B G H1 ∧ Ex H0 G ∧ StaAt C G x Sta.nil := by
  have g1 := g.set f1 h1 z1
  have g2 := g1.set f2 h2 (by rw [upd_ne d12.symm]; exact z2)
  have g3 := g2.set f3 h3 (by rw [upd_ne d23.symm, upd_ne d13.symm]; exact z3)
  have zx3 : upd (upd (upd H0 m1 (.lst [])) m2 (.lst [])) m3 (.lst []) x = none := by rw [upd_ne x3, upd_ne x2, upd_ne x1]; exact zx
  have g4 := g3.set fx hx zx3
  refine ⟨_, g4, g4.up, dx, m1, m2, m3, [], [], [], upd_same, ?_, ?_, ?_, .nil, .nil, .nil⟩
  · rw [upd_ne x1.symm, upd_ne d13, upd_ne d12, upd_same]; rfl
  · rw [upd_ne x2.symm, upd_ne d23, upd_same]; rfl
  · rw [upd_ne x3.symm, upd_same]; rfl
end Rt

namespace Rt
open PySem PySem.Spec PyProof.Rows L2 RZ TL LamX
/-! ### what sounds is what is open -/
def rowE (es : List Evt) (b : Nat) : List Int := match es[b]? with
  | some e => e.row
  | none => []
def CkSorted (S : List (List Int)) : Prop := S.Pairwise fun a b => leCK (rck a) (rck b) = true
def SndInv (es : List Evt) (rows : List Row) (S : List (List Int)) : Prop := CkSorted S ∧ ∀ ck, S.filter (fun r => decide (rck r = ck)) = (openAt es rows ck).map (rowE es)
theorem leCK_refl (a : Int × Int) : leCK a a = true := decide_eq_true (.inr ⟨rfl, Int.le_refl _⟩)
theorem leCK_trans {a b c : Int × Int} (h1 : leCK a b = true) (h2 : leCK b c = true) : leCK a c = true := by
  have h1 := of_decide_eq_true h1
  have h2 := of_decide_eq_true h2
  exact decide_eq_true (by omega)
theorem leCK_anti {a b : Int × Int} (h1 : leCK a b = true) (h2 : leCK b a = true) : a = b := by
  have h1 := of_decide_eq_true h1
  have h2 := of_decide_eq_true h2
  obtain ⟨x, y⟩ := a
  obtain ⟨z, w⟩ := b
  dsimp only at h1 h2
  have e1 : x = z := by omega
  have e2 : y = w := by omega
  rw [e1, e2]
theorem leCK_total {a b : Int × Int} (h : ¬ leCK a b = true) : leCK b a = true := by
  have h : ¬ (a.1 < b.1 ∨ a.1 = b.1 ∧ a.2 ≤ b.2) := fun z => h (decide_eq_true z)
  exact decide_eq_true (by omega)
/-- in a sorted list those up to a key come first -/
theorem split_at {ck : Int × Int} : ∀ {S : List (List Int)}, CkSorted S → (∀ x ∈ S.take (S.filter fun x => leCK (rck x) ck).length, leCK (rck x) ck = true) ∧ ∀ x ∈ S.drop (S.filter fun x => leCK (rck x) ck).length, leCK (rck x) ck = false
  | [], _ => ⟨(fun x h => nomatch h), (fun x h => nomatch h)⟩
  | y :: S, h => by
    have h1 := List.pairwise_cons.mp h
    by_cases c : leCK (rck y) ck = true
    · rw [List.filter_cons_of_pos (p := fun x => leCK (rck x) ck) c, List.length_cons]
      obtain ⟨i1, i2⟩ := split_at (ck := ck) (S := S) h1.2
      refine ⟨fun x hx => ?_, fun x hx => i2 x hx⟩
      rcases List.mem_cons.mp hx with e | hx
      · rw [e]; exact c
      · exact i1 x hx
    · have no : ∀ x ∈ S, ¬ leCK (rck x) ck = true := fun x hx z => c (leCK_trans (h1.1 x hx) z)
      rw [List.filter_cons_of_neg (p := fun x => leCK (rck x) ck) c, List.filter_eq_nil_iff.mpr no]
      refine ⟨fun x hx => (nomatch hx), fun x hx => ?_⟩
      rcases List.mem_cons.mp hx with e | hx
      · rw [e]; exact Bool.eq_false_iff.mpr c
      · exact Bool.eq_false_iff.mpr (no x hx)
theorem ins_sorted {S : List (List Int)} {r : List Int} (h : CkSorted S) : CkSorted (insN S r) := by
  obtain ⟨h1, h2⟩ := split_at (ck := rck r) h
  unfold insN
  dsimp only
  revert h1 h2
  generalize (S.filter fun x => leCK (rck x) (rck r)).length = n
  intro h1 h2
  have hs := h
  rw [← List.take_append_drop n S] at hs
  unfold CkSorted at hs ⊢
  rw [List.pairwise_append] at hs
  rw [List.append_assoc, List.pairwise_append]
  refine ⟨hs.1, List.pairwise_cons.mpr ⟨fun b hb => ?_, hs.2.1⟩, fun a ha b hb => ?_⟩
  · exact leCK_total (by rw [h2 b hb]; exact Bool.false_ne_true)
  · rcases List.mem_cons.mp hb with e | hb
    · rw [e]; exact h1 a ha
    · exact hs.2.2 a ha b hb
theorem ins_filter {S : List (List Int)} {r : List Int} (h : CkSorted S) (ck : Int × Int) : (insN S r).filter (fun x => decide (rck x = ck)) = if rck r = ck then S.filter (fun x => decide (rck x = ck)) ++ [r] else S.filter (fun x => decide (rck x = ck)) := by
  obtain ⟨h1, h2⟩ := split_at (ck := rck r) h
  unfold insN
  dsimp only
  revert h1 h2
  generalize (S.filter fun x => leCK (rck x) (rck r)).length = n
  intro h1 h2
  rw [List.filter_append, List.filter_append]
  have hS : S.filter (fun x => decide (rck x = ck)) = (S.take n).filter (fun x => decide (rck x = ck)) ++ (S.drop n).filter (fun x => decide (rck x = ck)) := by
    rw [← List.filter_append, List.take_append_drop]
  by_cases e : rck r = ck
  · rw [if_pos e, hS]
    have no : (S.drop n).filter (fun x => decide (rck x = ck)) = [] := List.filter_eq_nil_iff.mpr fun x hx z => by
      have z := of_decide_eq_true z
      have := h2 x hx
      rw [z, ← e, leCK_refl] at this
      cases this
    rw [no, List.append_nil, List.append_nil, List.filter_cons_of_pos (p := fun x : List Int => decide (rck x = ck)) (a := r) (decide_eq_true e)]
    rfl
  · rw [if_neg e, hS, List.filter_cons_of_neg (p := fun x : List Int => decide (rck x = ck)) (a := r) (by rw [decide_eq_false e]; exact Bool.false_ne_true), List.filter_nil, List.append_nil]
theorem del_sub (p : List Int → Bool) : ∀ S : List (List Int), (delF p S).Sublist S
  | [] => .slnil
  | x :: xs => by
    unfold delF
    split
    · exact .cons _ (List.Sublist.refl _)
    · exact (del_sub p xs).cons₂ _
theorem del_filter {c ck : Int × Int} : ∀ S : List (List Int), (delF (fun x => decide (rck x = c)) S).filter (fun x => decide (rck x = ck)) = if ck = c then (S.filter (fun x => decide (rck x = ck))).tail else S.filter (fun x => decide (rck x = ck))
  | [] => by split <;> rfl
  | x :: xs => by
    have ih := del_filter (c := c) (ck := ck) xs
    unfold delF
    by_cases h : rck x = c
    · rw [if_pos (decide_eq_true h)]
      by_cases e : ck = c
      · rw [if_pos e, List.filter_cons_of_pos (p := fun x : List Int => decide (rck x = ck)) (a := x) (decide_eq_true (h.trans e.symm))]
        rfl
      · rw [if_neg e, List.filter_cons_of_neg (p := fun x : List Int => decide (rck x = ck)) (a := x) (by rw [decide_eq_false (fun z => e (z.symm.trans h))]; exact Bool.false_ne_true)]
    · rw [if_neg (by rw [decide_eq_false h]; exact Bool.false_ne_true)]
      by_cases e : rck x = ck
      · have ne : ¬ ck = c := fun z => h (e.trans z)
        rw [if_neg ne] at ih ⊢
        rw [List.filter_cons_of_pos (p := fun x : List Int => decide (rck x = ck)) (a := x) (decide_eq_true e), List.filter_cons_of_pos (p := fun x : List Int => decide (rck x = ck)) (a := x) (decide_eq_true e), ih]
      · rw [List.filter_cons_of_neg (p := fun x : List Int => decide (rck x = ck)) (a := x) (by rw [decide_eq_false e]; exact Bool.false_ne_true), List.filter_cons_of_neg (p := fun x : List Int => decide (rck x = ck)) (a := x) (by rw [decide_eq_false e]; exact Bool.false_ne_true), ih]
theorem rowE_at {es : List Evt} {i : Nat} {e : Evt} (h : es[i]? = some e) : rowE es i = e.row := by
  unfold rowE
  rw [h]
/-- behind each event what sounds is what is open -/
theorem snd_inv (es : List Evt) : ∀ i, i ≤ es.length → SndInv es (walkN es i).rows (behind (es.take i)).snd
  | 0, _ => ⟨List.Pairwise.nil, fun ck => rfl⟩
  | i + 1, hi => by
    obtain ⟨h1, h2⟩ := snd_inv es i (by omega)
    have he : es[i]? = some es[i] := List.getElem?_eq_getElem (by omega)
    generalize es[i] = e at he
    rw [take_snoc he, behind_snoc]
    show SndInv es (stepN es i (walkN es i)).rows (sndA (behind (es.take i)).snd e)
    cases e with
    | key b t c k f =>
      cases b with
      | true =>
        rw [step_on he]
        refine ⟨ins_sorted h1, fun ck => ?_⟩
        show (insN _ _).filter _ = _
        rw [ins_filter h1, open_snoc, ck_at he, h2 ck]
        by_cases e2 : (c, k) = ck
        · rw [if_pos (show rck [c, k, f] = ck from e2), if_pos (by rw [e2]), List.map_append]
          show _ ++ [[c, k, f]] = _ ++ [rowE es i]
          rw [rowE_at he]
          rfl
        · rw [if_neg (show ¬ rck [c, k, f] = ck from e2), if_neg (fun z => e2 (Option.some.inj z))]
      | false =>
        have srt' : CkSorted (delF (fun x => decide (rck x = (c, k))) (behind (es.take i)).snd) := h1.sublist (del_sub _ _)
        cases ho : openAt es (walkN es i).rows (c, k) with
        | nil =>
          rw [step_off0 he ho]
          refine ⟨srt', fun ck => ?_⟩
          show (delF _ _).filter _ = _
          rw [del_filter]
          by_cases e2 : ck = (c, k)
          · rw [if_pos e2, e2, h2, ho]
            rfl
          · rw [if_neg e2, h2]
        | cons b r =>
          rw [step_off1 he ho]
          refine ⟨srt', fun ck => ?_⟩
          show (delF _ _).filter _ = _
          rw [del_filter, open_end (asc_nd (walkN_asc es i)) ho]
          by_cases e2 : ck = (c, k)
          · rw [if_pos e2, if_pos e2, e2, h2, ho]
            rfl
          · rw [if_neg e2, if_neg e2, h2]
    | knob t c k v => rw [step_no he rfl]; exact ⟨h1, h2⟩
    | voice t c v => rw [step_no he rfl]; exact ⟨h1, h2⟩
    | mark t s => rw [step_no he rfl]; exact ⟨h1, h2⟩
/-! ### open in the middle, seen from the end -/
def activeAt (m : Nat) (r : Row) : Bool := decide (r.1 < m) && (match r.2 with | none => true | some e => decide (m ≤ e))
theorem ends_lt (es : List Evt) : ∀ i, ∀ r ∈ (walkN es i).rows, ∀ e, r.2 = some e → e < i
  | 0, r, h, _, _ => nomatch h
  | i + 1, r, h, e, he => by
    have ih := ends_lt es i
    have h : r ∈ (stepN es i (walkN es i)).rows := h
    unfold stepN at h
    split at h
    · rcases List.mem_append.mp h with h | h
      · exact Nat.lt_succ_of_lt (ih r h e he)
      · rw [List.mem_singleton.mp h] at he
        cases he
    · split at h
      · exact Nat.lt_succ_of_lt (ih r h e he)
      · obtain ⟨r', hr', rfl⟩ := List.mem_map.mp h
        split at he
        · cases he
          exact Nat.lt_succ_self _
        · exact Nat.lt_succ_of_lt (ih r' hr' e he)
    · exact Nat.lt_succ_of_lt (ih r h e he)
theorem active_now {es : List Evt} {m : Nat} : ((walkN es m).rows.filter (activeAt m)).map (·.1) = ((walkN es m).rows.filter fun r => decide (r.2 = none)).map (·.1) := by
  congr 1
  refine List.filter_congr fun r hr => ?_
  have h1 := (walkN_asc es m).2 r hr
  unfold activeAt
  rw [decide_eq_true h1, Bool.true_and]
  cases e : r.2 with
  | none => rfl
  | some e' =>
    have := ends_lt es m r hr e' e
    show decide (m ≤ e') = decide (some e' = none)
    rw [decide_eq_false (by omega), decide_eq_false (fun z => nomatch z)]
theorem active_set {rows : List Row} {m b n : Nat} (hn : m ≤ n) (h : ∀ r ∈ rows, r.1 = b → r.2 = none) : ((setEnd rows b n).filter (activeAt m)).map (·.1) = (rows.filter (activeAt m)).map (·.1) := by
  induction rows with
  | nil => rfl
  | cons r rs ih =>
    have ih := ih fun x hx => h x (.tail _ hx)
    have key : activeAt m (if r.1 = b then (r.1, some n) else r) = activeAt m r := by
      by_cases e : r.1 = b
      · rw [if_pos e]
        have e2 := h r (.head _) e
        unfold activeAt
        rw [e2]
        show (decide (r.1 < m) && decide (m ≤ n)) = (decide (r.1 < m) && true)
        rw [decide_eq_true hn]
      · rw [if_neg e]
    have fst : (if r.1 = b then ((r.1, some n) : Row) else r).1 = r.1 := by split <;> rfl
    show (((if r.1 = b then ((r.1, some n) : Row) else r) :: setEnd rs b n).filter (activeAt m)).map (·.1) = _
    by_cases p : activeAt m r = true
    · rw [List.filter_cons_of_pos p, List.filter_cons_of_pos (by rw [key]; exact p), List.map_cons, List.map_cons, fst, ih]
    · rw [List.filter_cons_of_neg p, List.filter_cons_of_neg (by rw [key]; exact p), ih]
theorem active_later (es : List Evt) (m : Nat) : ∀ d, ((walkN es (m + d)).rows.filter (activeAt m)).map (·.1) = ((walkN es m).rows.filter (activeAt m)).map (·.1)
  | 0 => rfl
  | d + 1 => by
    have ih := active_later es m d
    show ((stepN es (m + d) (walkN es (m + d))).rows.filter (activeAt m)).map (·.1) = _
    rw [← ih]
    unfold stepN
    split
    · dsimp only
      rw [List.filter_append, List.filter_cons_of_neg (by unfold activeAt; rw [decide_eq_false (show ¬ m + d < m by omega), Bool.false_and]; exact Bool.false_ne_true), List.filter_nil, List.append_nil]
    · split
      · rfl
      · rename_i b _ ho
        dsimp only
        refine active_set (by omega) fun r hr e => ?_
        have hb := (mem_open (es := es) (rows := (walkN es (m + d)).rows) (b := b) (by rw [ho]; exact .head _)).1
        rw [row_eq (asc_nd (walkN_asc es (m + d))) hr hb e]
    · rfl
/-- the places active at m are those open at m -/
theorem active_open {es : List Evt} {m n : Nat} (h : m ≤ n) : ((walkN es n).rows.filter (activeAt m)).map (·.1) = ((walkN es m).rows.filter fun r => decide (r.2 = none)).map (·.1) := by
  obtain ⟨d, rfl⟩ : ∃ d, n = m + d := ⟨n - m, by omega⟩
  rw [active_later, active_now]
theorem open_filter (es : List Evt) (rows : List Row) (ck : Int × Int) : openAt es rows ck = ((rows.filter fun r => decide (r.2 = none)).map (·.1)).filter fun b => decide (ckAt es b = some ck) := by
  unfold openAt
  induction rows with
  | nil => rfl
  | cons r rs ih =>
    by_cases h1 : r.2 = none
    · rw [List.filter_cons_of_pos (p := fun r : Row => decide (r.2 = none)) (decide_eq_true h1), List.map_cons]
      by_cases h2 : ckAt es r.1 = some ck
      · rw [List.filter_cons_of_pos (by unfold isOpen; rw [decide_eq_true h1, decide_eq_true h2]; rfl), List.filter_cons_of_pos (p := fun b => decide (ckAt es b = some ck)) (decide_eq_true h2), List.map_cons, ih]
      · rw [List.filter_cons_of_neg (by unfold isOpen; rw [decide_eq_false h2, Bool.and_false]; exact Bool.false_ne_true), List.filter_cons_of_neg (p := fun b => decide (ckAt es b = some ck)) (by rw [decide_eq_false h2]; exact Bool.false_ne_true), ih]
    · rw [List.filter_cons_of_neg (p := fun r : Row => decide (r.2 = none)) (by rw [decide_eq_false h1]; exact Bool.false_ne_true), List.filter_cons_of_neg (by unfold isOpen; rw [decide_eq_false h1, Bool.false_and]; exact Bool.false_ne_true), ih]
/-- the rows due at m are those that sound -/
def dueN (es : List Evt) (m : Nat) : List (List Int) := (((walkN es es.length).rows.filter (activeAt m)).map (·.1)).map (rowE es)
theorem due_perm {es : List Evt} {m : Nat} (h : m ≤ es.length) : (behind (es.take m)).snd.Perm (dueN es m) := by
  have inv := (snd_inv es m h).2
  have key : ∀ ck, (behind (es.take m)).snd.filter (fun r => decide (rck r = ck)) = (dueN es m).filter (fun r => decide (rck r = ck)) := fun ck => by
    rw [inv ck, open_filter]
    unfold dueN
    rw [active_open h]
    conv => rhs; rw [List.filter_map]
    congr 1
    refine List.filter_congr fun b hb => ?_
    obtain ⟨r, hr, rfl⟩ := List.mem_map.mp hb
    obtain ⟨t, c, k, f, he⟩ := walkN_key es m r (List.mem_filter.mp hr).1
    show decide (ckAt es r.1 = some ck) = decide (rck (rowE es r.1) = ck)
    rw [ck_at he, rowE_at he]
    show decide (some (c, k) = some ck) = decide ((c, k) = ck)
    by_cases e : (c, k) = ck
    · rw [decide_eq_true e, decide_eq_true (by rw [e])]
    · rw [decide_eq_false e, decide_eq_false (fun z => e (Option.some.inj z))]
  refine List.perm_iff_count.mpr fun a => ?_
  have c1 : ∀ l : List (List Int), l.count a = (l.filter fun r => decide (rck r = rck a)).count a := fun l => by
    rw [List.count_filter]
    exact decide_eq_true rfl
  rw [c1, c1 (dueN es m), key]
theorem srt_perm {d : Nat} {a b : List (List Int)} (hb : RowsB d b) (h : a.Perm b) : srt a = srt b := srt_eq hb ((List.mergeSort_perm a leR).trans h) (srt_sorted a)
/-! ### the events up to a tick are the first ones -/
theorem rise_le2 {es : List Evt} (h : RiseE es) : ∀ (d i : Nat) (x y : Evt), es[i]? = some x → es[i + d]? = some y → x.tick ≤ y.tick
  | 0, i, x, y, h1, h2 => by
    have h2 : es[i]? = some y := h2
    rw [h1] at h2
    cases h2
    exact Int.le_refl _
  | d + 1, i, x, y, h1, h2 => by
    have l2 := (List.getElem?_eq_some_iff.mp h2).1
    have hm : es[i + d]? = some es[i + d] := List.getElem?_eq_getElem (by omega)
    have := h (i + d) _ y hm h2
    exact Int.le_trans (rise_le2 h d i x _ h1 hm) this
theorem upTo_take {es : List Evt} (h : RiseE es) (tk : Int) : ∃ m, m ≤ es.length ∧ upTo es tk = es.take m ∧ ∀ j e, es[j]? = some e → (e.tick ≤ tk ↔ j < m) := by
  induction es with
  | nil => exact ⟨0, Nat.le_refl _, rfl, fun j e he => by simp at he⟩
  | cons x xs ih =>
    by_cases c : x.tick ≤ tk
    · obtain ⟨m, h1, h2, h3⟩ := ih fun j a b ha hb => h (j + 1) a b ha hb
      refine ⟨m + 1, Nat.succ_le_succ h1, ?_, fun j e he => ?_⟩
      · show (x :: xs).filter _ = _
        rw [List.filter_cons_of_pos (p := fun e : Evt => decide (e.tick ≤ tk)) (a := x) (decide_eq_true c)]
        exact congrArg (x :: ·) h2
      · match j, he with
        | 0, he => cases he; exact ⟨fun _ => by omega, fun _ => c⟩
        | j + 1, he =>
          have := h3 j e he
          exact ⟨fun z => Nat.succ_lt_succ (this.mp z), fun z => this.mpr (Nat.lt_of_succ_lt_succ z)⟩
    · refine ⟨0, Nat.zero_le _, ?_, fun j e he => ⟨fun z => ?_, fun z => absurd z (Nat.not_lt_zero _)⟩⟩
      · refine List.filter_eq_nil_iff.mpr fun e he z => c ?_
        obtain ⟨j, hj⟩ := List.mem_iff_getElem?.mp he
        exact Int.le_trans (rise_le2 h j 0 x e rfl (by rw [Nat.zero_add]; exact hj)) (of_decide_eq_true z)
      · exact absurd (Int.le_trans (rise_le2 h j 0 x e rfl (by rw [Nat.zero_add]; exact he)) z) c
/-! ### rows as data -/
def rowsDD (rs : List (List Int)) : PyData := .list (rs.map fun r => .tuple (r.map PyData.int))
theorem dp_rws {K : PySem.W.Frag} {H : Hp} : ∀ {qs : List Addr} {rs : List (List Int)}, Rws H qs rs → DpAll K H (qs.map V.ref) (rs.map fun r => .tuple (r.map PyData.int))
  | _, _, .nil => .nil
  | _, _, .cons h t => .cons (dp_tupI (SqT.of h)) (dp_rws t)
theorem dp_rowsDD {K : PySem.W.Frag} {H : Hp} {a : Addr} {qs : List Addr} {rs : List (List Int)} (ha : H a = some (.lst (qs.map V.ref))) (h : Rws H qs rs) : Dp K H (.ref a) (rowsDD rs) := .lst (SqL.of ha) (dp_rws h)
theorem rowsDD_lay : ∀ rs : List (List Int), PyData.canLayAll0 (rs.map fun r => PyData.tuple (r.map PyData.int)) = true ∧ PyData.depthAll (rs.map fun r => PyData.tuple (r.map PyData.int)) ≤ 1
  | [] => ⟨rfl, Nat.zero_le _⟩
  | r :: rs => by
    obtain ⟨h1, h2⟩ := rowsDD_lay rs
    refine ⟨?_, ?_⟩
    · show ((PyData.tuple (r.map PyData.int)).canLay0 && _) = true
      rw [h1, Bool.and_true]
      exact PySem.W.ke_canLayAll0 r
    · show max (PyData.depthAll (r.map PyData.int) + 1) _ ≤ 1
      rw [PySem.W.ke_depthAll]
      omega
theorem rowsDD_shaped (rs : List (List Int)) : SeqAt.shaped (rowsDD rs) = true := by
  obtain ⟨h1, h2⟩ := rowsDD_lay rs
  show (PyData.canLayAll0 _ && decide (PyData.depthAll _ + 1 ≤ 64)) = true
  rw [h1, decide_eq_true (by omega)]
  rfl
theorem rowsDD_eq (rs : List (List Int)) : PyData.eqv (rowsDD rs) (rowsDD rs) = true := SeqAt.eqv_refl _ (SeqAt.canLay_of_shaped (rowsDD_shaped rs))
theorem dueN_b {es : List Evt} (hok : ∀ e ∈ es, e.Ok) (m : Nat) : RowsB 3 (dueN es m) := fun r hr => by
  unfold dueN at hr
  obtain ⟨b, hb, rfl⟩ := List.mem_map.mp hr
  obtain ⟨q, hq, rfl⟩ := List.mem_map.mp hb
  obtain ⟨t, c, k, f, he⟩ := walkN_key es _ q (List.mem_filter.mp hq).1
  rw [rowE_at he]
  exact ⟨rfl, (hok _ (List.mem_of_getElem? he)).row⟩
theorem due_snoc {es : List Evt} {m j : Nat} {rows : List Row} {r : Row} (h : rows[j]? = some r) : (((rows.take (j + 1)).filter (activeAt m)).map (·.1)).map (rowE es) = if activeAt m r = true then (((rows.take j).filter (activeAt m)).map (·.1)).map (rowE es) ++ [rowE es r.1] else (((rows.take j).filter (activeAt m)).map (·.1)).map (rowE es) := by
  rw [take_snoc h, List.filter_append]
  by_cases c : activeAt m r = true
  · rw [if_pos c, List.filter_cons_of_pos c, List.map_append, List.map_append]
    rfl
  · rw [if_neg c, List.filter_cons_of_neg c, List.filter_nil, List.append_nil]
end Rt

namespace Rt
open PySem PySem.Spec PyProof.Rows L2
/-! ### no two keys (channel, key) hash alike -/
def hashCK (c k : Nat) : Int := tupleHashN [(c : Int), (k : Int)]
where tupleHashN (l : List Int) : Int := reduceHash (Builtin.Tuple.tupleHashOf l)
def bases : List Nat := [7306349728055554319, 12418310136014612966, 10049765409666327412, 7996499203468434507, 5627954477120148953, 10739914885079207600, 8686648678881314695, 6318103952533029141, 4264837746335136236, 1896293019986850682, 7008253427945909329, 4639708701597623775, 2586442495399730870, 533176289201837965, 5329858177010503963, 3276591970812611058]
/-- which key has this hash -/
def unhash (h : Int) : Nat × Nat :=
  let m : Nat := 18446744073709551616
  let a := ((h - 2870177450013471924) % (m : Int)).toNat
  let a := a * 614540362697595703 % m
  let a := a / 2147483648 + a % 2147483648 * 8589934592
  let y := a * 839798700976720815 % m
  go y 0 bases
where go (y : Nat) (c : Nat) : List Nat → Nat × Nat
  | [] => (0, 0)
  | b :: r => if (y + 18446744073709551616 - b) % 18446744073709551616 < 128 then (c, (y + 18446744073709551616 - b) % 18446744073709551616) else go y (c + 1) r
set_option maxRecDepth 1000000 in
theorem unhash_ok : ∀ c, c < 16 → ∀ k, k < 128 → unhash (hashCK c k) = (c, k) := by decide +kernel
theorem hashCK_inj {c k c' k' : Nat} (hc : c < 16) (hk : k < 128) (hc' : c' < 16) (hk' : k' < 128) (h : hashCK c k = hashCK c' k') : c = c' ∧ k = k' := by
  have e := (unhash_ok c hc k hk).symm.trans ((congrArg unhash h).trans (unhash_ok c' hc' k' hk'))
  injection e with e1 e2
  exact ⟨e1, e2⟩
theorem key_hash {P : Program} {w : World} {c k : Nat} (hc : c < 16) (hk : k < 128) : (tupleKind (mixKind P w)).hash [Sum.inl (c : Int), Sum.inl (k : Int)] = hashCK c k := by
  have small : ∀ n : Nat, n < 128 → keyH w (Sum.inl (n : Int)) = (n : Int) := by
    have h : ∀ n : Nat, n < 128 → hashInt (n : Int) = (n : Int) := by decide +kernel
    exact h
  show reduceHash (Builtin.Tuple.tupleHashOf [keyH w (Sum.inl (c : Int)), keyH w (Sum.inl (k : Int))]) = _
  rw [small c (by omega), small k hk]
  rfl
def CKey (ks : List Key) : Prop := ∃ c k : Nat, c < 16 ∧ k < 128 ∧ ks = [Sum.inl (c : Int), Sum.inl (k : Int)]
theorem hash_nd {P : Program} {w : World} : ∀ {l : List (List Key)}, (∀ ks ∈ l, CKey ks) → l.Nodup → (l.map (tupleKind (mixKind P w)).hash).Nodup
  | [], _, _ => List.nodup_nil
  | x :: l, h, n => by
    rw [List.nodup_cons] at n
    rw [List.map_cons, List.nodup_cons]
    refine ⟨fun hm => ?_, hash_nd (fun ks hk => h ks (.tail _ hk)) n.2⟩
    obtain ⟨y, hy, e⟩ := List.mem_map.mp hm
    obtain ⟨c, k, hc, hk, rfl⟩ := h x (.head _)
    obtain ⟨c', k', hc', hk', rfl⟩ := h y (.tail _ hy)
    rw [key_hash hc hk, key_hash hc' hk'] at e
    obtain ⟨rfl, rfl⟩ := hashCK_inj hc' hk' hc hk e
    exact n.1 hy
/-! ### dict(d): a copy, where keys are tuples -/
def rCopyT : List V → Hp → VK → Prop := fun xs H Q => ∃ (a : Addr) (kvs : List (List Key × V)), xs = [.ref a] ∧ H a = some (.dT kvs) ∧ (∀ e ∈ kvs, CKey e.1) ∧ ∀ p, H p = none → Q (.ref p) (upd H p (.dT kvs))
theorem kt_keys {H : Hp} : ∀ {kvs : List (List Key × V)} {xs : List (List Key × Addr × Value)}, KT H kvs xs → xs.map (·.1) = kvs.map (·.1)
  | _, _, .nil => rfl
  | _, _, .cons h t => by
    rw [List.map_cons, List.map_cons, kt_keys t, h.1]
theorem cr_copyT {X : Cx} (hu : X.A.units + 64 < cLine) : CallR X (.type "dict") rCopyT := by
  intro pins s σ H xs us Q I r q
  obtain ⟨a, kvs, ex, ha, hck, q⟩ := q
  subst ex
  obtain ⟨u, eu, rx⟩ := vals1 r
  subst eu
  cases rx
  obtain ⟨z, lo, ys, rel, dd⟩ := dt_of I.hok ha
  have ky := kt_keys rel
  obtain ⟨ob0, es0, ep0, g0, g1, g2, g3, g4, nd0⟩ := id dd
  have hap : (ys.map fun x => (tupleKind (mixKind X.prog X.w)).hash x.1).Nodup := by
    have h := hash_nd (P := X.prog) (w := X.w) (l := ys.map (·.1)) (fun ks hks => by
      rw [ky] at hks
      obtain ⟨e, he, rfl⟩ := List.mem_map.mp hks
      exact hck e he) nd0
    rw [List.map_map] at h
    exact h
  have yz : ys.length ≤ sizeLine := (Paired.length rel) ▸ z
  have key : ∀ h', h'.DictOfH (tupleKind (mixKind X.prog X.w)) s.heap.objs.size ys → Heap.SameBut s.heap.objs.size (s.heap.push { cls := .type "dict", data := .dict #[] }) h' → EP X pins σ Q (.ref s.heap.objs.size) { s with heap := h' } := fun h' d' hs => by
    have hm : (s.heap.objs.size == sysModules) = false := beq_eq_false_iff_ne.mpr (Nat.ne_of_gt I.big)
    have fr := I.hok.fresh (Nat.le_refl s.heap.objs.size)
    obtain ⟨ob, e1, e2, k1, k2, k3, k4, _, k5⟩ := d'
    have rel' : KT (upd H s.heap.objs.size (.dT kvs)) kvs ys := rel.keeps fun b zs eb => by
      rw [upd_ne (ne_of_none eb fr)]
      exact eb
    exact ⟨.ref s.heap.objs.size, upd H s.heap.objs.size (.dT kvs),
      I.laid (t' := s.toks) (fun b u e => (hs.2 b (Nat.ne_of_lt (Heap.lt_size e))).trans (Heap.get?_push_of_some _ e)) (Nat.le_refl _) (show ObjOk X.prog X.w _ _ _ (.dT kvs) from ⟨z, hm, ys, rel', ob, e1, e2, k1, k2, k3, k4, k5⟩),
      rfl, q _ fr⟩
  have od : s.heap.objs.size ≠ a := fun e => absurd (Heap.lt_size g0) (by rw [e]; exact Nat.lt_irrefl _)
  have up : ∀ (b : Addr) (o : Obj), s.heap.get? b = some o → (s.heap.push { cls := .type "dict", data := .dict #[] }).get? b = some o := fun b o e => Heap.get?_push_of_some _ e
  refine callType_codes (Q₁ := fun obj z1 => obj = .ref s.heap.objs.size ∧ z1 = { s with heap := s.heap.push { cls := .type "dict", data := .dict #[] } })
    PySem.F.kt_called_dict (PySem.F.kt_typeCall_dict_1 _) PySem.F.entry_dict_init (kt_code_dict_new _ ⟨rfl, rfl⟩) ?_
  rintro obj z1 ⟨rfl, rfl⟩
  have hnew := Heap.DictOfH.new (knd := tupleKind (mixKind X.prog X.w)) s.heap
  have hold : (s.heap.push { cls := .type "dict", data := .dict #[] }).DictOfH (tupleKind (mixKind X.prog X.w)) a ys :=
    ⟨ob0, es0, ep0, up _ _ g0, g1, g2, g3, fun x hx => let ⟨o, its, n, h1, h2, h3, h4⟩ := g4 x hx; ⟨o, its, n, up _ _ h1, h2, h3, h4⟩, nd0⟩
  have tps : ∀ x ∈ ys, Shared.TypeIs { s with heap := s.heap.push { cls := .type "dict", data := .dict #[] } } (.ref x.2.1) "tuple" := fun x hx => by
    obtain ⟨o, its, n, h1, h2, h3, h4⟩ := g4 x hx
    exact ⟨o, up _ _ h1, h2⟩
  refine ⟨hnew.typeIs, PySem.F.args_dict_init_2 _ _, ?_⟩
  unfold Builtin.«dict.__init__»
  refine wpAny_bind ?_
  unfold Builtin.Dict.selfAndRest
  refine wpAny_bind (wpAny_notOrdered_dict hnew.typeIs ?_)
  show wpAny _ _ (pure (s.heap.objs.size, [Value.ref a])) _ _ _
  refine wpAny_pure ?_
  show wpAny _ _ (Builtin.Dict.updateFrom "dict.__init__" s.heap.objs.size (.ref a) [] .none) _ _ _
  unfold Builtin.Dict.updateFrom
  refine wpAny_bind (wpAny_typeOf hold.typeIs ?_)
  rw [if_neg (by decide)]
  refine wpAny_bind ?_
  unfold Builtin.Dict.merge
  refine wpAny_bind ?_
  unfold Builtin.Dict.readDirectly
  refine wpAny_bind (wpAny_isInstance hold.typeIs isSubtype_dict_dict ?_)
  simp only [Bool.not_true, Bool.false_eq_true, if_false]
  refine wpAny_bind (wpAny_specialOf hold.typeIs PySem.F.slot_dict_iter.lookup (wpAny_pure ?_))
  simp only [beq_self_eq_true, if_true]
  refine wpAny_bind (wpAny_pure ?_)
  refine wpAny_mergeDict_heap (hsz := by rw [List.length_nil]; omega) (show X.A.units + 1 + 1 < cLine by omega) od lo hnew hold (.inr ⟨tps, hap⟩) fun h' hd' _ hs' => ?_
  show wpAny _ _ (Builtin.Dict.addKeywords s.heap.objs.size [] >>= _) _ _ _
  rw [storedAllH_nil_of_nodup ys nd0] at hd'
  exact wpAny_bind (wpAny_pure (wpAny_pure ⟨rfl, key h' hd' hs'⟩))
end Rt

namespace Rt
open PySem PySem.Spec PyProof.Rows L2 RZ TL LamX
/-! ### dicts as lists, of any keys and values -/
section
variable {κ β : Type} [DecidableEq κ]
def hasA (l : List (κ × β)) (k : κ) : Bool := l.any fun e => decide (e.1 = k)
def putA (l : List (κ × β)) (k : κ) (b : β) : List (κ × β) := if hasA l k = true then l.map fun e => if e.1 = k then (e.1, b) else e else l ++ [(k, b)]
def getA (l : List (κ × β)) (k : κ) (d : β) : β := ((l.find? fun e => decide (e.1 = k)).map (·.2)).getD d
theorem hasA_iff {l : List (κ × β)} {k : κ} : hasA l k = true ↔ k ∈ l.map (·.1) := by
  unfold hasA
  rw [List.any_eq_true, List.mem_map]
  constructor
  · rintro ⟨e, he, h⟩
    exact ⟨e, he, of_decide_eq_true h⟩
  · rintro ⟨e, he, h⟩
    exact ⟨e, he, decide_eq_true h⟩
theorem putA_fst (l : List (κ × β)) (k : κ) (b : β) : (putA l k b).map (·.1) = if hasA l k = true then l.map (·.1) else l.map (·.1) ++ [k] := by
  unfold putA
  split
  · rw [List.map_map]
    refine List.map_congr_left fun e _ => ?_
    show (if e.1 = k then (e.1, b) else e).1 = e.1
    split <;> rfl
  · rw [List.map_append]
    rfl
theorem putA_nd {l : List (κ × β)} {k : κ} (b : β) (h : (l.map (·.1)).Nodup) : ((putA l k b).map (·.1)).Nodup := by
  rw [putA_fst]
  split
  · exact h
  · rename_i c
    rw [List.nodup_append]
    refine ⟨h, List.nodup_cons.mpr ⟨(fun z => nomatch z), List.nodup_nil⟩, fun x hx y hy => ?_⟩
    rw [List.mem_singleton.mp hy]
    intro e
    rw [e] at hx
    exact c (hasA_iff.mpr hx)
theorem putA_keys {l : List (κ × β)} {k j : κ} {b : β} : j ∈ (putA l k b).map (·.1) ↔ j = k ∨ j ∈ l.map (·.1) := by
  rw [putA_fst]
  split
  · rename_i c
    have c := hasA_iff.mp c
    constructor
    · exact .inr
    · rintro (rfl | h)
      · exact c
      · exact h
  · rw [List.mem_append, List.mem_singleton]
    exact Or.comm
theorem find_map {l : List (κ × β)} {k j : κ} {b : β} : ((l.map fun e => if e.1 = k then (e.1, b) else e).find? fun e => decide (e.1 = j)) = (l.find? fun e => decide (e.1 = j)).map fun e => if e.1 = k then (e.1, b) else e := by
  induction l with
  | nil => rfl
  | cons x l ih =>
    rw [List.map_cons, List.find?_cons, List.find?_cons]
    have e1 : (if x.1 = k then (x.1, b) else x).1 = x.1 := by split <;> rfl
    rw [e1]
    by_cases c : x.1 = j
    · rw [decide_eq_true c]
      rfl
    · rw [decide_eq_false c]
      exact ih
theorem find_none {l : List (κ × β)} {k : κ} (h : ¬ hasA l k = true) : (l.find? fun e => decide (e.1 = k)) = none := by
  rw [List.find?_eq_none]
  intro e he z
  exact h (hasA_iff.mpr (List.mem_map.mpr ⟨e, he, of_decide_eq_true z⟩))
theorem find_some {l : List (κ × β)} {k : κ} (h : hasA l k = true) : ∃ b, (l.find? fun e => decide (e.1 = k)) = some (k, b) := by
  cases c : l.find? fun e => decide (e.1 = k) with
  | none =>
    rw [List.find?_eq_none] at c
    obtain ⟨e, he, h2⟩ := List.mem_map.mp (hasA_iff.mp h)
    exact absurd (decide_eq_true h2) (c e he)
  | some e =>
    have h2 := List.find?_some c
    have h2 : e.1 = k := of_decide_eq_true h2
    exact ⟨e.2, by rw [← h2]⟩
theorem getA_put (l : List (κ × β)) (k j : κ) (b d : β) : getA (putA l k b) j d = if j = k then b else getA l j d := by
  unfold getA putA
  by_cases c : hasA l k = true
  · rw [if_pos c, find_map]
    by_cases e : j = k
    · subst e
      obtain ⟨b0, h0⟩ := find_some c
      rw [if_pos rfl, h0]
      show (some (if j = j then (j, b) else (j, b0)).2).getD d = b
      rw [if_pos rfl]
      rfl
    · rw [if_neg e]
      cases h0 : l.find? fun e => decide (e.1 = j) with
      | none => rfl
      | some x =>
        have h2 := List.find?_some h0
        have h2 : x.1 = j := of_decide_eq_true h2
        show (some (if x.1 = k then (x.1, b) else x).2).getD d = (some x.2).getD d
        rw [if_neg (fun z => e (h2.symm.trans z))]
  · rw [if_neg c, List.find?_append]
    by_cases e : j = k
    · subst e
      rw [if_pos rfl, find_none c]
      show ((([(j, b)] : List (κ × β)).find? fun e => decide (e.1 = j)).map (·.2)).getD d = b
      rw [List.find?_cons, decide_eq_true rfl]
      rfl
    · rw [if_neg e]
      cases h0 : l.find? fun e => decide (e.1 = j) with
      | none =>
        show ((([(k, b)] : List (κ × β)).find? fun e => decide (e.1 = j)).map (·.2)).getD d = d
        rw [List.find?_cons, decide_eq_false (fun z => e z.symm)]
        rfl
      | some x => rfl
theorem putA_perm : ∀ {l : List (κ × β)} {k : κ} {b : β}, (l.map (·.1)).Nodup → (putA l k b).Perm (l.filter (fun e => decide (e.1 ≠ k)) ++ [(k, b)])
  | [], k, b, _ => List.Perm.refl _
  | x :: l, k, b, h => by
    have h' := List.nodup_cons.mp h
    by_cases e : x.1 = k
    · have hk : hasA (x :: l) k = true := hasA_iff.mpr (by rw [← e]; exact .head _)
      have no : ∀ y ∈ l, y.1 ≠ k := fun y hy z => h'.1 (by
        show x.1 ∈ _
        rw [e, ← z]
        exact List.mem_map_of_mem (f := (·.1)) hy)
      unfold putA
      rw [if_pos hk, List.map_cons, if_pos e, e, List.filter_cons_of_neg (p := fun e : κ × β => decide (e.1 ≠ k)) (a := x) (by rw [decide_eq_false (fun z => z e)]; exact Bool.false_ne_true)]
      have m1 : (l.map fun e => if e.1 = k then (e.1, b) else e) = l := by
        have : ∀ y ∈ l, (if y.1 = k then (y.1, b) else y) = id y := fun y hy => if_neg (no y hy)
        rw [List.map_congr_left this, List.map_id]
      have m2 : l.filter (fun e => decide (e.1 ≠ k)) = l := List.filter_eq_self.mpr fun y hy => decide_eq_true (no y hy)
      rw [m1, m2]
      exact (List.perm_append_singleton (k, b) l).symm
    · have ih := putA_perm (l := l) (k := k) (b := b) h'.2
      rw [List.filter_cons_of_pos (p := fun e : κ × β => decide (e.1 ≠ k)) (a := x) (decide_eq_true e)]
      have hh : hasA (x :: l) k = hasA l k := by
        show (decide (x.1 = k) || hasA l k) = hasA l k
        rw [decide_eq_false e, Bool.false_or]
      have : putA (x :: l) k b = x :: putA l k b := by
        unfold putA
        rw [hh]
        split
        · rw [List.map_cons, if_neg e]
        · rfl
      rw [this]
      exact ih.cons x
/-- kept over into another kind of keys and values -/
theorem putA_map {κ' : Type} [DecidableEq κ'] {f : κ → κ'} (hf : ∀ a b, f a = f b → a = b) (g : β → V) (l : List (κ × β)) (k : κ) (b : β) : (putA l k b).map (fun e => (f e.1, g e.2)) = putK (l.map fun e => (f e.1, g e.2)) (f k) (g b) := by
  have hh : ((l.map fun e => (f e.1, g e.2)).any fun kv => decide (kv.1 = f k)) = hasA l k := by
    unfold hasA
    rw [List.any_map]
    congr 1
    funext e
    show decide (f e.1 = f k) = decide (e.1 = k)
    by_cases c : e.1 = k
    · rw [decide_eq_true c, decide_eq_true (by rw [c])]
    · rw [decide_eq_false c, decide_eq_false (fun z => c (hf _ _ z))]
  unfold putA putK
  rw [hh]
  split
  · rw [List.map_map, List.map_map]
    refine List.map_congr_left fun e _ => ?_
    show (f (if e.1 = k then (e.1, b) else e).1, g (if e.1 = k then (e.1, b) else e).2) = (if f e.1 = f k then (f e.1, g b) else (f e.1, g e.2))
    by_cases c : e.1 = k
    · rw [if_pos c, if_pos (by rw [c])]
    · rw [if_neg c, if_neg (fun z => c (hf _ _ z))]
  · rw [List.map_append]
    rfl
end
/-! ### the law's model of a stand -/
structure DM where
  s : List ((Int × Int) × List Int)
  n : List ((Int × Int) × Int)
  v : List (Int × Int)
def DM.nil : DM := ⟨[], [], []⟩
def DM.after (M : DM) : Evt → DM
  | .key true _ c k f => { M with s := putA M.s (c, k) (getA M.s (c, k) [] ++ [f]) }
  | .key false _ c k _ => { M with s := putA M.s (c, k) ((getA M.s (c, k) []).drop 1) }
  | .knob _ c k v => { M with n := putA M.n (c, k) v }
  | .voice _ c v => { M with v := putA M.v c v }
  | .mark .. => M
def rowS (ck : Int × Int) (f : Int) : List Int := [ck.1, ck.2, f]
def rowsN (l : List ((Int × Int) × Int)) : List (List Int) := (l.filter fun e => decide (e.2 ≠ 0)).map fun e => rowS e.1 e.2
def rowsV (l : List (Int × Int)) : List (List Int) := (l.filter fun e => decide (e.2 ≠ 0)).map fun e => [e.1, e.2]
/-- the model of a stand stands for it -/
structure DM.Is (M : DM) (st : Sta) : Prop where
  nds : (M.s.map (·.1)).Nodup
  ndn : (M.n.map (·.1)).Nodup
  ndv : (M.v.map (·.1)).Nodup
  srt : CkSorted st.snd
  snd : ∀ ck, st.snd.filter (fun r => decide (rck r = ck)) = (getA M.s ck []).map (rowS ck)
  key : ∀ r ∈ st.snd, rck r ∈ M.s.map (·.1)
  knb : st.knb = Rt.srt (rowsN M.n)
  voi : st.voi = Rt.srt (rowsV M.v)
  okn : ∀ e ∈ M.n, (0 ≤ e.1.1 ∧ e.1.1 < 128) ∧ (0 ≤ e.1.2 ∧ e.1.2 < 128) ∧ 0 ≤ e.2 ∧ e.2 < 128
  okv : ∀ e ∈ M.v, (0 ≤ e.1 ∧ e.1 < 128) ∧ 0 ≤ e.2 ∧ e.2 < 128
theorem srt_nil : Rt.srt [] = [] := List.mergeSort_nil
theorem DM.Is.nil : DM.Is .nil .nil := ⟨List.nodup_nil, List.nodup_nil, List.nodup_nil, List.Pairwise.nil, fun _ => rfl, (fun _ h => nomatch h), srt_nil.symm, srt_nil.symm, (fun _ h => nomatch h), (fun _ h => nomatch h)⟩
/-- a row more or other among the set ones -/
theorem setA_rows {d : Nat} {A B : List (List Int)} {r : List Int} (hA : RowsB d A) (hr : r.length = d ∧ TS.Bd 128 r) (hd : 1 ≤ d)
    (hB : B.Perm (A.filter (fun x => decide (x.dropLast ≠ r.dropLast)) ++ (if r.getLastD 0 = 0 then [] else [r]))) : setA (srt A) r = srt B := by
  have pA : (srt A).Perm A := List.mergeSort_perm A leR
  have pk := pA.filter (fun x => decide (x.dropLast ≠ r.dropLast))
  have bk : RowsB d (A.filter fun x => decide (x.dropLast ≠ r.dropLast)) := fun x hx => hA x (List.mem_filter.mp hx).1
  have sk : ((srt A).filter fun x => decide (x.dropLast ≠ r.dropLast)).Pairwise fun a b => TS.code 128 a ≤ TS.code 128 b := (srt_sorted A).filter _
  unfold setA
  dsimp only
  by_cases c : r.getLastD 0 = 0
  · rw [if_pos c] at hB ⊢
    rw [List.append_nil] at hB
    rw [srt_eq bk pk sk]
    exact (srt_perm bk hB).symm
  · rw [if_neg c] at hB ⊢
    have bB : RowsB d (A.filter (fun x => decide (x.dropLast ≠ r.dropLast)) ++ [r]) := fun x hx => by
      rcases List.mem_append.mp hx with h | h
      · exact bk x h
      · rw [List.mem_singleton.mp h]; exact hr
    rw [srt_perm bB hB]
    exact srt_perm bB (pk.append_right [r])
theorem putA_mem {κ β : Type} [DecidableEq κ] {l : List (κ × β)} {k : κ} {b : β} {e : κ × β} (h : e ∈ putA l k b) : e = (k, b) ∨ e ∈ l := by
  unfold putA at h
  split at h
  · obtain ⟨x, hx, rfl⟩ := List.mem_map.mp h
    by_cases c : x.1 = k
    · rw [if_pos c, c]
      exact .inl rfl
    · rw [if_neg c]
      exact .inr hx
  · rcases List.mem_append.mp h with h | h
    · exact .inr h
    · exact .inl (List.mem_singleton.mp h)
theorem rowsN_put {l : List ((Int × Int) × Int)} {c k v : Int} (h : (l.map (·.1)).Nodup) : (rowsN (putA l (c, k) v)).Perm ((rowsN l).filter (fun x => decide (x.dropLast ≠ [c, k, v].dropLast)) ++ (if [c, k, v].getLastD 0 = 0 then [] else [[c, k, v]])) := by
  unfold rowsN
  have h1 := ((putA_perm (b := v) (k := (c, k)) h).filter fun e => decide (e.2 ≠ 0)).map fun e => rowS e.1 e.2
  refine h1.trans ?_
  rw [List.filter_append, List.map_append, List.filter_map]
  have e1 : (l.filter fun e => decide (e.1 ≠ (c, k))).filter (fun e => decide (e.2 ≠ 0)) = (l.filter fun e => decide (e.2 ≠ 0)).filter ((fun x : List Int => decide (x.dropLast ≠ [c, k, v].dropLast)) ∘ fun e => rowS e.1 e.2) := by
    rw [List.filter_filter, List.filter_filter]
    refine List.filter_congr fun e _ => ?_
    have : ((fun x : List Int => decide (x.dropLast ≠ [c, k, v].dropLast)) ∘ fun e : (Int × Int) × Int => rowS e.1 e.2) e = decide (e.1 ≠ (c, k)) := by
      show decide ([e.1.1, e.1.2] ≠ [c, k]) = decide (e.1 ≠ (c, k))
      refine decide_eq_decide.mpr (not_congr ⟨fun z => ?_, fun z => by rw [z]⟩)
      injection z with z1 z2
      injection z2 with z2 _
      exact Prod.ext z1 z2
    rw [this, Bool.and_comm]
  rw [e1]
  refine List.Perm.append_left _ ?_
  by_cases z : v = 0
  · subst z
    exact List.Perm.refl _
  · rw [if_neg (show ¬ [c, k, v].getLastD 0 = 0 from z), List.filter_cons_of_pos (p := fun e : (Int × Int) × Int => decide (e.2 ≠ 0)) (a := ((c, k), v)) (decide_eq_true z)]
    exact List.Perm.refl _
theorem rowsV_put {l : List (Int × Int)} {c v : Int} (h : (l.map (·.1)).Nodup) : (rowsV (putA l c v)).Perm ((rowsV l).filter (fun x => decide (x.dropLast ≠ [c, v].dropLast)) ++ (if [c, v].getLastD 0 = 0 then [] else [[c, v]])) := by
  unfold rowsV
  have h1 := ((putA_perm (b := v) (k := c) h).filter fun e => decide (e.2 ≠ 0)).map fun e => [e.1, e.2]
  refine h1.trans ?_
  rw [List.filter_append, List.map_append, List.filter_map]
  have e1 : (l.filter fun e => decide (e.1 ≠ c)).filter (fun e => decide (e.2 ≠ 0)) = (l.filter fun e => decide (e.2 ≠ 0)).filter ((fun x : List Int => decide (x.dropLast ≠ [c, v].dropLast)) ∘ fun e => [e.1, e.2]) := by
    rw [List.filter_filter, List.filter_filter]
    refine List.filter_congr fun e _ => ?_
    have : ((fun x : List Int => decide (x.dropLast ≠ [c, v].dropLast)) ∘ fun e : Int × Int => [e.1, e.2]) e = decide (e.1 ≠ c) := by
      show decide ([e.1] ≠ [c]) = decide (e.1 ≠ c)
      refine decide_eq_decide.mpr (not_congr ⟨fun z => ?_, fun z => by rw [z]⟩)
      injection z with z1 z2
    rw [this, Bool.and_comm]
  rw [e1]
  refine List.Perm.append_left _ ?_
  by_cases z : v = 0
  · subst z
    exact List.Perm.refl _
  · rw [if_neg (show ¬ [c, v].getLastD 0 = 0 from z), List.filter_cons_of_pos (p := fun e : Int × Int => decide (e.2 ≠ 0)) (a := (c, v)) (decide_eq_true z)]
    exact List.Perm.refl _
theorem rowsN_ok {l : List ((Int × Int) × Int)} (h : ∀ e ∈ l, (0 ≤ e.1.1 ∧ e.1.1 < 128) ∧ (0 ≤ e.1.2 ∧ e.1.2 < 128) ∧ 0 ≤ e.2 ∧ e.2 < 128) : RowsB 3 (rowsN l) := fun r hr => by
  obtain ⟨e, he, rfl⟩ := List.mem_map.mp hr
  obtain ⟨h1, h2, h3⟩ := h e (List.mem_filter.mp he).1
  refine ⟨rfl, fun x hx => ?_⟩
  have hx : x ∈ [e.1.1, e.1.2, e.2] := hx
  simp only [List.mem_cons, List.mem_nil_iff, or_false] at hx
  rcases hx with rfl | rfl | rfl
  · exact h1
  · exact h2
  · exact h3
theorem rowsV_ok {l : List (Int × Int)} (h : ∀ e ∈ l, (0 ≤ e.1 ∧ e.1 < 128) ∧ 0 ≤ e.2 ∧ e.2 < 128) : RowsB 2 (rowsV l) := fun r hr => by
  obtain ⟨e, he, rfl⟩ := List.mem_map.mp hr
  obtain ⟨h1, h2⟩ := h e (List.mem_filter.mp he).1
  refine ⟨rfl, fun x hx => ?_⟩
  have hx : x ∈ [e.1, e.2] := hx
  simp only [List.mem_cons, List.mem_nil_iff, or_false] at hx
  rcases hx with rfl | rfl
  · exact h1
  · exact h2
/-- one thing more, in both -/
theorem DM.Is.after {M : DM} {st : Sta} {e : Evt} (I : M.Is st) (ok : e.Ok) : (M.after e).Is (st.after e) := by
  cases e with
  | key b t c k f =>
    cases b with
    | true =>
      refine ⟨putA_nd _ I.nds, I.ndn, I.ndv, ins_sorted I.srt, fun ck => ?_, fun r hr => ?_, I.knb, I.voi, I.okn, I.okv⟩
      · show (insN st.snd [c, k, f]).filter _ = _
        rw [ins_filter I.srt, I.snd ck]
        show _ = (getA (putA M.s (c, k) (getA M.s (c, k) [] ++ [f])) ck []).map (rowS ck)
        rw [getA_put]
        by_cases e2 : ck = (c, k)
        · subst e2
          rw [if_pos (show rck [c, k, f] = (c, k) from rfl), if_pos rfl, List.map_append]
          rfl
        · rw [if_neg (show ¬ rck [c, k, f] = ck from fun z => e2 z.symm), if_neg e2]
      · show rck r ∈ (putA M.s (c, k) _).map (·.1)
        rw [putA_keys]
        have hr : r ∈ insN st.snd [c, k, f] := hr
        unfold insN at hr
        rcases List.mem_append.mp hr with hr | hr
        · rcases List.mem_append.mp hr with hr | hr
          · exact .inr (I.key r (List.mem_of_mem_take hr))
          · rw [List.mem_singleton.mp hr]
            exact .inl rfl
        · exact .inr (I.key r (List.mem_of_mem_drop hr))
    | false =>
      refine ⟨putA_nd _ I.nds, I.ndn, I.ndv, I.srt.sublist (del_sub _ _), fun ck => ?_, fun r hr => ?_, I.knb, I.voi, I.okn, I.okv⟩
      · show (delF (fun x => decide (rck x = (c, k))) st.snd).filter _ = _
        rw [del_filter, I.snd ck]
        show _ = (getA (putA M.s (c, k) ((getA M.s (c, k) []).drop 1)) ck []).map (rowS ck)
        rw [getA_put]
        by_cases e2 : ck = (c, k)
        · subst e2
          rw [if_pos rfl, if_pos rfl, List.drop_one, List.map_tail]
        · rw [if_neg e2, if_neg e2]
      · show rck r ∈ (putA M.s (c, k) _).map (·.1)
        rw [putA_keys]
        exact .inr (I.key r ((del_sub _ _).subset hr))
  | knob t c k v =>
    refine ⟨I.nds, putA_nd _ I.ndn, I.ndv, I.srt, I.snd, I.key, ?_, I.voi, fun e he => ?_, I.okv⟩
    · show setA st.knb [c, k, v] = Rt.srt (rowsN (putA M.n (c, k) v))
      rw [I.knb]
      obtain ⟨_, o1, o2, o3⟩ := ok
      refine setA_rows (rowsN_ok I.okn) ⟨rfl, fun x hx => ?_⟩ (by decide) (rowsN_put I.ndn)
      simp only [List.mem_cons, List.mem_nil_iff, or_false] at hx
      rcases hx with rfl | rfl | rfl <;> constructor <;> omega
    · rcases putA_mem he with rfl | he
      · obtain ⟨_, o1, o2, o3⟩ := ok
        exact ⟨⟨o1.1, Int.lt_of_le_of_lt o1.2 (by decide)⟩, ⟨o2.1, Int.lt_of_le_of_lt o2.2 (by decide)⟩, o3.1, Int.lt_of_le_of_lt o3.2 (by decide)⟩
      · exact I.okn e he
  | voice t c v =>
    refine ⟨I.nds, I.ndn, putA_nd _ I.ndv, I.srt, I.snd, I.key, I.knb, ?_, I.okn, fun e he => ?_⟩
    · show setA st.voi [c, v] = Rt.srt (rowsV (putA M.v c v))
      rw [I.voi]
      obtain ⟨_, o1, o2⟩ := ok
      refine setA_rows (rowsV_ok I.okv) ⟨rfl, fun x hx => ?_⟩ (by decide) (rowsV_put I.ndv)
      simp only [List.mem_cons, List.mem_nil_iff, or_false] at hx
      rcases hx with rfl | rfl <;> constructor <;> omega
    · rcases putA_mem he with rfl | he
      · obtain ⟨_, o1, o2⟩ := ok
        exact ⟨⟨o1.1, Int.lt_of_le_of_lt o1.2 (by decide)⟩, o2.1, Int.lt_of_le_of_lt o2.2 (by decide)⟩
      · exact I.okv e he
  | mark t x => exact I
/-! ### the model's lists are the stand's -/
theorem code2 (a b : Int) : TS.code 128 [a, b] = a * 128 + b := by simp [TS.code]
theorem code3 (a b c : Int) : TS.code 128 [a, b, c] = a * 16384 + (b * 128 + c) := by simp [TS.code]
def ck2 (ck : Int × Int) : List Int := [ck.1, ck.2]
def CkB (ck : Int × Int) : Prop := (0 ≤ ck.1 ∧ ck.1 < 128) ∧ (0 ≤ ck.2 ∧ ck.2 < 128)
theorem ck2_le {a b : Int × Int} (ha : CkB a) (hb : CkB b) : TS.code 128 (ck2 a) ≤ TS.code 128 (ck2 b) ↔ leCK a b = true := by
  unfold ck2 leCK
  rw [code2, code2, decide_eq_true_iff]
  obtain ⟨⟨_, _⟩, _, _⟩ := ha
  obtain ⟨⟨_, _⟩, _, _⟩ := hb
  omega
theorem ck_split {a : Int × Int} : ∀ {S : List (List Int)}, CkSorted S → (∀ r ∈ S, leCK a (rck r) = true) → S = S.filter (fun r => decide (rck r = a)) ++ S.filter (fun r => decide (rck r ≠ a))
  | [], _, _ => rfl
  | x :: S, h, hl => by
    have h1 := List.pairwise_cons.mp h
    by_cases c : rck x = a
    · rw [List.filter_cons_of_pos (p := fun r => decide (rck r = a)) (decide_eq_true c), List.filter_cons_of_neg (p := fun r => decide (rck r ≠ a)) (by rw [decide_eq_false (fun z => z c)]; exact Bool.false_ne_true), List.cons_append]
      exact congrArg (x :: ·) (ck_split h1.2 fun r hr => hl r (.tail _ hr))
    · have no : ∀ r ∈ S, rck r ≠ a := fun r hr z => c (leCK_anti (by rw [← z]; exact h1.1 r hr) (hl x (.head _)))
      rw [List.filter_cons_of_neg (p := fun r => decide (rck r = a)) (by rw [decide_eq_false c]; exact Bool.false_ne_true), List.filter_cons_of_pos (p := fun r => decide (rck r ≠ a)) (decide_eq_true c),
        List.filter_eq_nil_iff.mpr (fun r hr z => no r hr (of_decide_eq_true z)), List.filter_eq_self.mpr (fun r hr => decide_eq_true (no r hr))]
      rfl
theorem flat_congr {α β : Type} {f g : α → List β} : ∀ {L : List α}, (∀ a ∈ L, f a = g a) → L.flatMap f = L.flatMap g
  | [], _ => rfl
  | x :: L, h => by
    rw [List.flatMap_cons, List.flatMap_cons, h x (.head _), flat_congr fun a ha => h a (.tail _ ha)]
theorem ck_flat : ∀ {L : List (Int × Int)} {S : List (List Int)}, CkSorted S → L.Pairwise (fun a b => leCK a b = true) → L.Nodup → (∀ r ∈ S, rck r ∈ L) → L.flatMap (fun ck => S.filter fun r => decide (rck r = ck)) = S
  | [], [], _, _, _, _ => rfl
  | [], r :: S, _, _, _, h => nomatch h r (.head _)
  | a :: L, S, hS, hL, hn, hm => by
    have p := List.pairwise_cons.mp hL
    have n := List.nodup_cons.mp hn
    have low : ∀ r ∈ S, leCK a (rck r) = true := fun r hr => by
      rcases List.mem_cons.mp (hm r hr) with e | h
      · rw [e]; exact leCK_refl a
      · exact p.1 _ h
    have sp := ck_split hS low
    have ih := ck_flat (L := L) (S := S.filter fun r => decide (rck r ≠ a)) (hS.filter _) p.2 n.2 (fun r hr => by
      obtain ⟨h1, h2⟩ := List.mem_filter.mp hr
      rcases List.mem_cons.mp (hm r h1) with e | h
      · exact absurd e (of_decide_eq_true h2)
      · exact h)
    rw [List.flatMap_cons]
    have e1 : (L.flatMap fun ck => S.filter fun r => decide (rck r = ck)) = L.flatMap fun ck => (S.filter fun r => decide (rck r ≠ a)).filter fun r => decide (rck r = ck) := by
      refine flat_congr fun ck hck => ?_
      rw [List.filter_filter]
      refine List.filter_congr fun r _ => ?_
      by_cases c : rck r = ck
      · have : rck r ≠ a := fun z => n.1 (by rw [← z, c]; exact hck)
        rw [decide_eq_true c, decide_eq_true this]
        rfl
      · rw [decide_eq_false c, Bool.false_and]
    rw [e1, ih]
    exact sp.symm
theorem DM.Is.parts_s {M : DM} {st : Sta} (I : M.Is st) (kb : ∀ k ∈ M.s.map (·.1), CkB k) {L : List (Int × Int)} (hp : L.Perm (M.s.map (·.1))) (hs : L.Pairwise fun a b => TS.code 128 (ck2 a) ≤ TS.code 128 (ck2 b)) :
    L.flatMap (fun ck => (getA M.s ck []).map (rowS ck)) = st.snd := by
  have hL : L.Pairwise fun a b => leCK a b = true := List.Pairwise.imp_of_mem (fun {a b} ha hb h => (ck2_le (kb a (hp.subset ha)) (kb b (hp.subset hb))).mp h) hs
  have e : (fun ck => (getA M.s ck []).map (rowS ck)) = fun ck => st.snd.filter fun r => decide (rck r = ck) := by
    funext ck
    exact (I.snd ck).symm
  rw [e]
  exact ck_flat I.srt hL (hp.nodup_iff.mpr I.nds) fun r hr => hp.symm.subset (I.key r hr)
theorem getA_mem {κ β : Type} [DecidableEq κ] {d : β} : ∀ {l : List (κ × β)} {e : κ × β}, (l.map (·.1)).Nodup → e ∈ l → getA l e.1 d = e.2
  | x :: l, e, h, he => by
    have n := List.nodup_cons.mp h
    unfold getA
    rw [List.find?_cons]
    rcases List.mem_cons.mp he with rfl | he
    · rw [decide_eq_true rfl]
      rfl
    · have ne : ¬ x.1 = e.1 := fun z => n.1 (by
        show x.1 ∈ _
        rw [z]
        exact List.mem_map_of_mem (f := (·.1)) he)
      rw [decide_eq_false ne]
      exact getA_mem n.2 he
theorem DM.Is.parts_n {M : DM} {st : Sta} (I : M.Is st) {L : List (Int × Int)} (hp : L.Perm (M.n.map (·.1))) (hs : L.Pairwise fun a b => TS.code 128 (ck2 a) ≤ TS.code 128 (ck2 b)) :
    (L.filter fun ck => decide (getA M.n ck 0 > 0)).map (fun ck => rowS ck (getA M.n ck 0)) = st.knb := by
  rw [I.knb]
  have kb : ∀ k ∈ L, CkB k := fun k hk => by
    obtain ⟨e, he, rfl⟩ := List.mem_map.mp (hp.subset hk)
    exact ⟨(I.okn e he).1, (I.okn e he).2.1⟩
  have vb : ∀ k ∈ L, 0 ≤ getA M.n k 0 ∧ getA M.n k 0 < 128 := fun k hk => by
    obtain ⟨e, he, rfl⟩ := List.mem_map.mp (hp.subset hk)
    rw [getA_mem I.ndn he]
    exact (I.okn e he).2.2
  have hn : L.Nodup := hp.nodup_iff.mpr I.ndn
  refine srt_eq (rowsN_ok I.okn) ?_ ?_
  · have h1 := (hp.filter fun ck => decide (getA M.n ck 0 > 0)).map fun ck => rowS ck (getA M.n ck 0)
    refine h1.trans ?_
    unfold rowsN
    rw [List.filter_map, List.map_map]
    have e1 : M.n.filter ((fun ck => decide (getA M.n ck 0 > 0)) ∘ (·.1)) = M.n.filter fun e => decide (e.2 ≠ 0) := List.filter_congr fun e he => by
      show decide (getA M.n e.1 0 > 0) = decide (e.2 ≠ 0)
      rw [getA_mem I.ndn he]
      have := (I.okn e he).2.2
      exact decide_eq_decide.mpr ⟨fun z => by omega, fun z => by omega⟩
    rw [e1]
    refine List.Perm.of_eq (List.map_congr_left fun e he => ?_)
    show rowS e.1 (getA M.n e.1 0) = rowS e.1 e.2
    rw [getA_mem I.ndn (List.mem_filter.mp he).1]
  · rw [List.pairwise_map]
    have hb := List.Pairwise.and hs hn
    refine (List.Pairwise.imp_of_mem (fun {a b} ha hb2 h => ?_) hb).filter _
    obtain ⟨⟨_, _⟩, _, _⟩ := kb a ha
    obtain ⟨⟨_, _⟩, _, _⟩ := kb b hb2
    obtain ⟨_, _⟩ := vb a ha
    obtain ⟨_, _⟩ := vb b hb2
    have h1 := h.1
    have ne : ¬ (a.1 = b.1 ∧ a.2 = b.2) := fun z => h.2 (Prod.ext z.1 z.2)
    unfold ck2 at h1
    unfold rowS
    rw [code2, code2] at h1
    rw [code3, code3]
    omega
theorem DM.Is.parts_v {M : DM} {st : Sta} (I : M.Is st) {L : List Int} (hp : L.Perm (M.v.map (·.1))) (hs : L.Pairwise fun a b => a ≤ b) :
    (L.filter fun c => decide (getA M.v c 0 > 0)).map (fun c => [c, getA M.v c 0]) = st.voi := by
  rw [I.voi]
  have vb : ∀ k ∈ L, 0 ≤ getA M.v k 0 ∧ getA M.v k 0 < 128 := fun k hk => by
    obtain ⟨e, he, rfl⟩ := List.mem_map.mp (hp.subset hk)
    rw [getA_mem I.ndv he]
    exact (I.okv e he).2
  have hn : L.Nodup := hp.nodup_iff.mpr I.ndv
  refine srt_eq (rowsV_ok I.okv) ?_ ?_
  · have h1 := (hp.filter fun ck => decide (getA M.v ck 0 > 0)).map fun ck => [ck, getA M.v ck 0]
    refine h1.trans ?_
    unfold rowsV
    rw [List.filter_map, List.map_map]
    have e1 : M.v.filter ((fun ck => decide (getA M.v ck 0 > 0)) ∘ (·.1)) = M.v.filter fun e => decide (e.2 ≠ 0) := List.filter_congr fun e he => by
      show decide (getA M.v e.1 0 > 0) = decide (e.2 ≠ 0)
      rw [getA_mem I.ndv he]
      have := (I.okv e he).2
      exact decide_eq_decide.mpr ⟨fun z => by omega, fun z => by omega⟩
    rw [e1]
    refine List.Perm.of_eq (List.map_congr_left fun e he => ?_)
    show [e.1, getA M.v e.1 0] = [e.1, e.2]
    rw [getA_mem I.ndv (List.mem_filter.mp he).1]
  · rw [List.pairwise_map]
    have hb := List.Pairwise.and hs hn
    refine (List.Pairwise.imp_of_mem (fun {a b} ha hb2 h => ?_) hb).filter _
    obtain ⟨_, _⟩ := vb a ha
    obtain ⟨_, _⟩ := vb b hb2
    obtain ⟨h1, h2⟩ := h
    rw [code2, code2]
    omega
end Rt

namespace Rt
open PySem PySem.Spec PyProof.Rows L2
/-! ### dict(d): a copy, where keys are numbers and texts -/
def rCopyK : List V → Hp → VK → Prop := fun xs H Q => ∃ (a : Addr) (kvs : List (Key × V)), xs = [.ref a] ∧ H a = some (.dK kvs) ∧ ∀ p, H p = none → Q (.ref p) (upd H p (.dK kvs))
theorem cr_copyK {X : Cx} : CallR X (.type "dict") rCopyK := by
  intro pins s σ H xs us Q I r q
  obtain ⟨a, kvs, ex, ha, q⟩ := q
  subst ex
  obtain ⟨u, eu, rx⟩ := vals1 r
  subst eu
  cases rx
  obtain ⟨z, lo, ys, rel, dd⟩ := dk_of I.hok ha
  obtain ⟨ob0, es0, ep0, g0, g1, g2, g3, g4, nd0⟩ := id dd
  have yz : ys.length ≤ sizeLine := (Paired.length rel) ▸ z
  have key : ∀ h', h'.DictOf (mixKind X.prog X.w) s.heap.objs.size ys → Heap.SameBut s.heap.objs.size (s.heap.push { cls := .type "dict", data := .dict #[] }) h' → EP X pins σ Q (.ref s.heap.objs.size) { s with heap := h' } := fun h' d' hs => by
    have hm : (s.heap.objs.size == sysModules) = false := beq_eq_false_iff_ne.mpr (Nat.ne_of_gt I.big)
    have fr := I.hok.fresh (Nat.le_refl s.heap.objs.size)
    obtain ⟨ob, e1, e2, k1, k2, k3, k4, k5, k6⟩ := d'
    exact ⟨.ref s.heap.objs.size, upd H s.heap.objs.size (.dK kvs),
      I.laid (t' := s.toks) (fun b u e => (hs.2 b (Nat.ne_of_lt (Heap.lt_size e))).trans (Heap.get?_push_of_some _ e)) (Nat.le_refl _) (show ObjOk X.prog X.w _ _ _ (.dK kvs) from ⟨z, hm, ys, rel, ob, e1, e2, k1, k2, k3, k4, k5, k6⟩),
      rfl, q _ fr⟩
  have od : s.heap.objs.size ≠ a := fun e => absurd (Heap.lt_size g0) (by rw [e]; exact Nat.lt_irrefl _)
  have up : ∀ (b : Addr) (o : Obj), s.heap.get? b = some o → (s.heap.push { cls := .type "dict", data := .dict #[] }).get? b = some o := fun b o e => Heap.get?_push_of_some _ e
  refine callType_codes (Q₁ := fun obj z1 => obj = .ref s.heap.objs.size ∧ z1 = { s with heap := s.heap.push { cls := .type "dict", data := .dict #[] } })
    PySem.F.kt_called_dict (PySem.F.kt_typeCall_dict_1 _) PySem.F.entry_dict_init (kt_code_dict_new _ ⟨rfl, rfl⟩) ?_
  rintro obj z1 ⟨rfl, rfl⟩
  have hnew := Heap.DictOf.new (knd := mixKind X.prog X.w) s.heap
  have hold : (s.heap.push { cls := .type "dict", data := .dict #[] }).DictOf (mixKind X.prog X.w) a ys :=
    ⟨ob0, es0, ep0, up _ _ g0, g1, g2, g3, g4, nd0⟩
  refine ⟨hnew.typeIs, PySem.F.args_dict_init_2 _ _, ?_⟩
  unfold Builtin.«dict.__init__»
  refine wpAny_bind ?_
  unfold Builtin.Dict.selfAndRest
  refine wpAny_bind (wpAny_notOrdered_dict hnew.typeIs ?_)
  show wpAny _ _ (pure (s.heap.objs.size, [Value.ref a])) _ _ _
  refine wpAny_pure ?_
  show wpAny _ _ (Builtin.Dict.updateFrom "dict.__init__" s.heap.objs.size (.ref a) [] .none) _ _ _
  unfold Builtin.Dict.updateFrom
  refine wpAny_bind (wpAny_typeOf hold.typeIs ?_)
  rw [if_neg (by decide)]
  refine wpAny_bind ?_
  unfold Builtin.Dict.merge
  refine wpAny_bind ?_
  unfold Builtin.Dict.readDirectly
  refine wpAny_bind (wpAny_isInstance hold.typeIs isSubtype_dict_dict ?_)
  simp only [Bool.not_true, Bool.false_eq_true, if_false]
  refine wpAny_bind (wpAny_specialOf hold.typeIs PySem.F.slot_dict_iter.lookup (wpAny_pure ?_))
  simp only [beq_self_eq_true, if_true]
  refine wpAny_bind (wpAny_pure ?_)
  refine wpAny_mergeDict (hsz := by rw [List.length_nil]; omega) od lo hnew hold fun h' hd' _ hs' => ?_
  show wpAny _ _ (Builtin.Dict.addKeywords s.heap.objs.size [] >>= _) _ _ _
  rw [merged_nil_of_nodup ys nd0] at hd'
  exact wpAny_bind (wpAny_pure (wpAny_pure ⟨rfl, key h' hd' hs'⟩))
end Rt

namespace Rt
open PySem PySem.Spec PyProof.Rows L2 RZ TL LamX
/-! ### the model as dicts -/
def kCK (ck : Int × Int) : List Key := keyK ck.1 ck.2
def entS (G : Hp) (e : List Key × V) (x : (Int × Int) × List Int) : Prop := e.1 = kCK x.1 ∧ ∃ l, e.2 = .ref l ∧ G l = some (.lst (x.2.map V.int))
structure DMAt (G : Hp) (p : Addr) (M : DM) : Prop where
  ex : ∃ (a b c : Addr) (sd : List (List Key × V)), G p = some (.dK [(Sum.inr "sounds", .ref a), (Sum.inr "knobs", .ref b), (Sum.inr "voices", .ref c)]) ∧ G a = some (.dT sd) ∧ Paired (entS G) sd M.s ∧
    G b = some (.dT (M.n.map fun e => (kCK e.1, V.int e.2))) ∧ G c = some (.dK (M.v.map fun e => (Sum.inl e.1, V.int e.2)))
theorem DMAt.up {G G' : Hp} {p : Addr} {M : DM} (h : DMAt G p M) (x : Ex G G') : DMAt G' p M := by
  obtain ⟨a, b, c, sd, h1, h2, h3, h4, h5⟩ := h.ex
  exact ⟨a, b, c, sd, x _ _ h1, x _ _ h2, Paired.mapP h3 fun e y z => ⟨z.1, z.2.choose, z.2.choose_spec.1, x _ _ z.2.choose_spec.2⟩, x _ _ h4, x _ _ h5⟩
theorem kCK_inj {a b : Int × Int} (h : kCK a = kCK b) : a = b := by
  unfold kCK keyK at h
  injection h with h1 h2
  injection h2 with h2 _
  injection h1 with h1
  injection h2 with h2
  exact Prod.ext h1 h2
def spSilent : Sp := fun vs H Q _ => ∃ (H0 : Hp), vs = [] ∧ Ex H0 H ∧ ∀ (p : Addr) (G H' : Hp), Go (fun _ => False) H0 H G H' → DMAt G p .nil → Q (.ref p) H'
def CkI (k : Int × Int) : Prop := (0 ≤ k.1 ∧ k.1 < 16) ∧ 0 ≤ k.2 ∧ k.2 < 128
def spAfterM : Sp := fun vs H Q _ => ∃ (m t : Addr) (M : DM) (e : Evt) (H0 : Hp), vs = [.ref m, .ref t] ∧ Ex H0 H ∧ DMAt H0 m M ∧ H0 t = some (.tup e.th) ∧ e.Ok ∧ (∀ k ∈ M.s.map (·.1), CkI k) ∧ (∀ k ∈ M.n.map (·.1), CkI k) ∧ M.s.length ≤ 500 ∧ M.n.length ≤ 500 ∧ M.v.length ≤ 500 ∧ (∀ x ∈ M.s, x.2.length ≤ 1000) ∧
  ∀ (p : Addr) (G H' : Hp), Go (fun _ => False) H0 H G H' → DMAt G p (M.after e) → Q (.ref p) H'
theorem merge3 (x y z : V) : mergeK [] [((Sum.inr ("sounds" : Str) : Key), x), ((Sum.inr ("knobs" : Str) : Key), y), ((Sum.inr ("voices" : Str) : Key), z)] = [((Sum.inr ("sounds" : Str) : Key), x), ((Sum.inr ("knobs" : Str) : Key), y), ((Sum.inr ("voices" : Str) : Key), z)] := by
  rfl
/-- all that is new can be settled -/
theorem Go.all {m : Addr → Prop} {E0 E H0 H : Hp} (g : Go m E0 E H0 H) : ∃ G, Go m E0 E G H ∧ Ex H0 G ∧ ∀ b o, E b = none → H b = some o → G b = some o := by
  refine ⟨fun b => if E b = none then H b else H0 b, ⟨fun b o h => ?_, fun b o h => ?_, fun b h1 h2 => ?_, g.keep, g.there⟩, fun b o h => ?_, fun b o h1 h2 => ?_⟩
  · show (if E b = none then H b else H0 b) = some o
    split
    · exact g.inn _ _ (g.up _ _ h)
    · exact g.up _ _ h
  · have h : (if E b = none then H b else H0 b) = some o := h
    split at h
    · exact h
    · exact g.inn _ _ h
  · show (if E b = none then H b else H0 b) = none
    rw [if_neg h1]
    exact g.new b h1 h2
  · show (if E b = none then H b else H0 b) = some o
    split
    · exact g.inn _ _ h
    · exact h
  · show (if E b = none then H b else H0 b) = some o
    rw [if_pos h1]
    exact h2
theorem ckey_of {k : Int × Int} (h : CkI k) : CKey (kCK k) := by
  obtain ⟨⟨a, b⟩, c, d⟩ := h
  refine ⟨k.1.toNat, k.2.toNat, by omega, by omega, ?_⟩
  show [Sum.inl k.1, Sum.inl k.2] = _
  rw [Int.toNat_of_nonneg a, Int.toNat_of_nonneg c]
theorem pairedMem {α β : Type} {F : α → β → Prop} : ∀ {l : List α} {m : List β}, Paired F l m → ∀ x ∈ l, ∃ y ∈ m, F x y
  | _, _, .nil, x, h => nomatch h
  | _, _, .cons r t, x, h => by
    rcases List.mem_cons.mp h with rfl | h
    · exact ⟨_, .head _, r⟩
    · obtain ⟨y, hy, hf⟩ := pairedMem t x h
      exact ⟨y, .tail _ hy, hf⟩
theorem ckey_s {G : Hp} {sd : List (List Key × V)} {l : List ((Int × Int) × List Int)} (h : Paired (entS G) sd l) (hk : ∀ k ∈ l.map (·.1), CkI k) : ∀ e ∈ sd, CKey e.1 := fun e he => by
  obtain ⟨x, hx, hf⟩ := pairedMem h e he
  rw [hf.1]
  exact ckey_of (hk _ (List.mem_map_of_mem (f := (·.1)) hx))
theorem ckey_n {l : List ((Int × Int) × Int)} (hk : ∀ k ∈ l.map (·.1), CkI k) : ∀ e ∈ l.map (fun e => (kCK e.1, V.int e.2)), CKey e.1 := fun e he => by
  obtain ⟨x, hx, rfl⟩ := List.mem_map.mp he
  exact ckey_of (hk _ (List.mem_map_of_mem (f := (·.1)) hx))
theorem val_s {G : Hp} {ck : Int × Int} : ∀ {sd : List (List Key × V)} {l : List ((Int × Int) × List Int)}, Paired (entS G) sd l →
    (∃ L, valV sd (kCK ck) = some (.ref L) ∧ G L = some (.lst ((getA l ck []).map V.int))) ∨ (valV sd (kCK ck) = none ∧ getA l ck [] = [])
  | _, _, .nil => .inr ⟨rfl, rfl⟩
  | e :: sd, x :: l, .cons h t => by
    obtain ⟨h1, L, h2, h3⟩ := h
    by_cases c : x.1 = ck
    · refine .inl ⟨L, ?_, ?_⟩
      · obtain ⟨e1, e2⟩ := e
        have h1 : e1 = kCK x.1 := h1
        have h2 : e2 = .ref L := h2
        rw [h1, h2, c]
        exact valV_pos rfl
      · unfold getA
        rw [List.find?_cons, decide_eq_true c]
        exact h3
    · have hv : valV (e :: sd) (kCK ck) = valV sd (kCK ck) := valV_neg fun z => c (kCK_inj (h1.symm.trans z))
      have hg : getA (x :: l) ck [] = getA l ck [] := by
        unfold getA
        rw [List.find?_cons, decide_eq_false c]
      rw [hv, hg]
      exact val_s t
theorem has_s {G : Hp} {ck : Int × Int} {sd : List (List Key × V)} {l : List ((Int × Int) × List Int)} (h : Paired (entS G) sd l) : (sd.any fun kv => decide (kv.1 = kCK ck)) = hasA l ck := by
  induction h with
  | nil => rfl
  | @cons e x sd l h1 t ih =>
    show (decide (e.1 = kCK ck) || _) = (decide (x.1 = ck) || hasA l ck)
    rw [ih, h1.1]
    congr 1
    by_cases c : x.1 = ck
    · rw [decide_eq_true c, decide_eq_true (by rw [c])]
    · rw [decide_eq_false c, decide_eq_false (fun z => c (kCK_inj z))]
theorem paired_put {G G' : Hp} {ck : Int × Int} {sd : List (List Key × V)} {l : List ((Int × Int) × List Int)} {L : Addr} {ns : List Int} (h : Paired (entS G) sd l) (hx : ∀ e ∈ sd, ∀ L o, e.2 = .ref L → G L = some o → G' L = some o) (hL : G' L = some (.lst (ns.map V.int))) : Paired (entS G') (putK sd (kCK ck) (.ref L)) (putA l ck ns) := by
  unfold putK putA
  rw [has_s h]
  have up : Paired (entS G') sd l := by
    clear hL
    induction h with
    | nil => exact .nil
    | @cons e x sd l h1 t ih =>
      obtain ⟨e1, L1, e2, e3⟩ := h1
      exact .cons ⟨e1, L1, e2, hx e (.head _) L1 _ e2 e3⟩ (ih fun e he => hx e (.tail _ he))
  split
  · rename_i hc
    clear h hx hc
    induction up with
    | nil => exact .nil
    | @cons e x sd l h1 t ih =>
      refine .cons ?_ ih
      show entS G' (if e.1 = kCK ck then (e.1, .ref L) else e) (if x.1 = ck then (x.1, ns) else x)
      by_cases c : x.1 = ck
      · rw [if_pos (show e.1 = kCK ck by rw [h1.1, c]), if_pos c]
        exact ⟨h1.1, L, rfl, hL⟩
      · rw [if_neg (show ¬ e.1 = kCK ck from fun z => c (kCK_inj (h1.1.symm.trans z))), if_neg c]
        exact h1
  · exact pairedApp up (.cons ⟨rfl, L, rfl, hL⟩ .nil)
theorem getA_len {ck : Int × Int} {n : Nat} : ∀ {l : List ((Int × Int) × List Int)}, (∀ x ∈ l, x.2.length ≤ n) → (getA l ck []).length ≤ n
  | [], _ => Nat.zero_le _
  | x :: l, h => by
    unfold getA
    rw [List.find?_cons]
    by_cases c : x.1 = ck
    · rw [decide_eq_true c]
      exact h x (.head _)
    · rw [decide_eq_false c]
      exact getA_len (l := l) fun y hy => h y (.tail _ hy)
/-- how great the model is -/
structure DMB (M : DM) (n : Nat) : Prop where
  ks : ∀ k ∈ M.s.map (·.1), CkI k
  kn : ∀ k ∈ M.n.map (·.1), CkI k
  ls : M.s.length ≤ n
  ln : M.n.length ≤ n
  lv : M.v.length ≤ n
  ll : ∀ x ∈ M.s, x.2.length ≤ n
theorem putA_len {κ β : Type} [DecidableEq κ] (l : List (κ × β)) (k : κ) (b : β) : (putA l k b).length ≤ l.length + 1 := by
  unfold putA
  split
  · rw [List.length_map]; omega
  · rw [List.length_append]; exact Nat.le_refl _
theorem DMB.nil : DMB .nil 0 := ⟨(fun _ h => nomatch h), (fun _ h => nomatch h), Nat.le_refl _, Nat.le_refl _, Nat.le_refl _, (fun _ h => nomatch h)⟩
theorem DMB.after {M : DM} {n : Nat} {e : Evt} (h : DMB M n) (ok : e.Ok) : DMB (M.after e) (n + 1) := by
  have up : ∀ x ∈ M.s, x.2.length ≤ n + 1 := fun x hx => Nat.le_succ_of_le (h.ll x hx)
  have big : DMB M (n + 1) := ⟨h.ks, h.kn, Nat.le_succ_of_le h.ls, Nat.le_succ_of_le h.ln, Nat.le_succ_of_le h.lv, up⟩
  have key : ∀ (c k : Int) (ns : List Int), CkI (c, k) → ns.length ≤ n + 1 → DMB { M with s := putA M.s (c, k) ns } (n + 1) := fun c k ns hc hn => by
    refine ⟨fun y hy => ?_, h.kn, Nat.le_trans (putA_len _ _ _) (Nat.succ_le_succ h.ls), big.ln, big.lv, fun x hx => ?_⟩
    · rcases putA_keys.mp hy with rfl | hy
      · exact hc
      · exact h.ks y hy
    · rcases putA_mem hx with rfl | hx
      · exact hn
      · exact up x hx
  cases e with
  | key b t c k f =>
    obtain ⟨_, o1, o2, _⟩ := ok
    have hc : CkI (c, k) := ⟨⟨o1.1, Int.lt_of_le_of_lt o1.2 (by decide)⟩, o2.1, Int.lt_of_le_of_lt o2.2 (by decide)⟩
    have gl := getA_len (ck := (c, k)) h.ll
    cases b with
    | true => exact key c k _ hc (by rw [List.length_append]; exact Nat.succ_le_succ gl)
    | false => exact key c k _ hc (by rw [List.length_drop]; omega)
  | knob t c k v =>
    obtain ⟨_, o1, o2, _⟩ := ok
    have hc : CkI (c, k) := ⟨⟨o1.1, Int.lt_of_le_of_lt o1.2 (by decide)⟩, o2.1, Int.lt_of_le_of_lt o2.2 (by decide)⟩
    refine ⟨h.ks, fun y hy => ?_, big.ls, Nat.le_trans (putA_len _ _ _) (Nat.succ_le_succ h.ln), big.lv, up⟩
    rcases putA_keys.mp hy with rfl | hy
    · exact hc
    · exact h.kn y hy
  | voice t c v => exact ⟨h.ks, h.kn, big.ls, big.ln, Nat.le_trans (putA_len _ _ _) (Nat.succ_le_succ h.lv), up⟩
  | mark t x => exact big
def dmOf (es : List Evt) : DM := es.foldl DM.after .nil
theorem dmOf_snoc (es : List Evt) (e : Evt) : dmOf (es ++ [e]) = (dmOf es).after e := by
  unfold dmOf
  rw [List.foldl_append]
  rfl
theorem dmOf_ok : ∀ {es : List Evt}, (∀ e ∈ es, e.Ok) → ∀ i, i ≤ es.length → DMB (dmOf (es.take i)) i ∧ (dmOf (es.take i)).Is (behind (es.take i))
  | es, h, 0, _ => ⟨DMB.nil, DM.Is.nil⟩
  | es, h, i + 1, hi => by
    obtain ⟨h1, h2⟩ := dmOf_ok h i (by omega)
    have he : es[i]? = some es[i] := List.getElem?_eq_getElem (by omega)
    have ok := h es[i] (List.getElem_mem _)
    rw [take_snoc he, dmOf_snoc, behind_snoc]
    exact ⟨h1.after ok, h2.after ok⟩
def spBehind : Sp := fun vs H Q _ => ∃ (m r : Addr) (ps : List Addr) (es : List Evt) (H0 : Hp), vs = [.ref m, .ref r] ∧ Ex H0 H ∧ DMAt H0 m .nil ∧ H0 r = some (.lst (ps.map V.ref)) ∧ Evs H0 ps (es.map Evt.v) ∧ es.length ≤ 400 ∧ (∀ e ∈ es, e.Ok) ∧
  ∀ (p : Addr) (G H' : Hp), Go (fun _ => False) H0 H G H' → DMAt G p (dmOf es) → Q (.ref p) H'
end Rt

namespace Rt
open PySem PySem.Spec PyProof.Rows L2 RZ TL LamX
def topS (i : Nat) : Stmt := PySem.Challenge.pw_reedtapes_k32_stands_at_ticks.main.body.getD i (.Pass ⟨0, 0, 0, 0⟩)
section
variable {P : Program} {w : World} {K : PySem.W.Frag} {mg : Str → Option Value} {base : Heap}
abbrev s_m_silent : Stmt := topS 29
theorem sc_m_silent : FnScope [] [] (defScope s_m_silent) := ⟨rfl, rfl, rfl, by decide +kernel, rfl, by decide +kernel, by decide +kernel⟩
theorem ok_silent {f : Addr} {fd : FuncData} (F : Fun K "_law_silent" "_law_silent" s_m_silent f fd) : FnOk P w K mg base CX0 1 f fd [] spSilent := by
  refine F.ok sc_m_silent (fun vs H Q E h => ?_) (fun cdv A outer s B vs Q E hr h => ?_)
  · obtain ⟨H0, rfl, _⟩ := h
    rfl
  · obtain ⟨H0, rfl, e0, q⟩ := h
    refine ⟨_, (pss_one (ps_ret (pe_disp (pps_cons pe_str pe_dnewT (pps_cons pe_str pe_dnewT (pps_cons pe_str pe_dnewK pps_nil))) (by rfl) (by rfl) (fun z => by cases z) (by decide)))), ?_⟩
    have g := Go.refl (m := fun _ => False) e0
    refine fun p hp => ?_
    obtain ⟨H1, e1, g, hpp, x1, Bp, Zp⟩ := g.ly (.dK []) hp
    rw [e1]
    refine fun a ha => ?_
    have npa := ne_of_none hpp ha
    obtain ⟨H2, e2, g, haa, x2, Ba, Za⟩ := g.ly (.dT []) ha
    have hpp := x2 _ _ hpp
    rw [e2]
    refine fun b hb => ?_
    have npb := ne_of_none hpp hb
    obtain ⟨H3, e3, g, hbb, x3, Bb, Zb⟩ := g.ly (.dT []) hb
    have hpp := x3 _ _ hpp
    have haa := x3 _ _ haa
    rw [e3]
    refine fun c hc => ?_
    have npc := ne_of_none hpp hc
    obtain ⟨H4, e4, g, hcc, x4, Bc, Zc⟩ := g.ly (.dK []) hc
    have hpp := x4 _ _ hpp
    have haa := x4 _ _ haa
    have hbb := x4 _ _ hbb
    rw [e4]
    refine ⟨hpp, [(Sum.inr "sounds", .ref a), (Sum.inr "knobs", .ref b), (Sum.inr "voices", .ref c)], rfl, (by show 3 ≤ 15; decide), ?_⟩
    rw [merge3]
    have g := g.turn (.dK [(Sum.inr "sounds", .ref a), (Sum.inr "knobs", .ref b), (Sum.inr "voices", .ref c)]) Bp Zp
    obtain ⟨G, gG, xG, all⟩ := g.all
    exact q p G _ gG ⟨a, b, c, [], all _ _ Bp upd_same, all _ _ Ba ((upd_ne npa.symm).trans haa), .nil, all _ _ Bb ((upd_ne npb.symm).trans hbb), all _ _ Bc ((upd_ne npc.symm).trans hcc)⟩
abbrev s_m_after : Stmt := topS 27
theorem sc_m_after : FnScope ["_law_m", "_law_thing_here", "_law_found"] ["_law_m", "_law_thing_here"] (defScope s_m_after) := ⟨rfl, rfl, rfl, by decide +kernel, rfl, by decide +kernel, by decide +kernel⟩
theorem ok_after {f : Addr} {fd : FuncData} (F : Fun K "_law_after" "_law_after" s_m_after f fd) (m_dict : mg "dict" = none) : FnOk P w K mg base CX0 1 f fd ["_law_m", "_law_thing_here"] spAfterM := by
  refine F.ok sc_m_after (fun vs H Q E h => ?_) (fun cdv A outer s B vs Q E hr h => ?_)
  · obtain ⟨m, t, M, e, H0, rfl, _⟩ := h
    rfl
  · obtain ⟨m, t, M, e, H0, rfl, e0, hM, ht, hok, ks, kn, ls, ln, lv, ll, q⟩ := h
    refine ⟨_, (pss_cons (ps_set (i := 2) sc_m_after.nd rfl (Or.inl rfl) (pe_disp (pps_cons pe_str (pe_callTy (cr_copyT hr.units) (by rfl) m_dict bt_dict (pa_cons (pe_dget (hu_of hr) (pv 0) pe_str (fun _ _ => rfl)) pa_nil)) (pps_cons pe_str (pe_callTy (cr_copyT hr.units) (by rfl) m_dict bt_dict (pa_cons (pe_dget (hu_of hr) (pv 0) pe_str (fun _ _ => rfl)) pa_nil)) (pps_cons pe_str (pe_callTy cr_copyK (by rfl) m_dict bt_dict (pa_cons (pe_dget (hu_of hr) (pv 0) pe_str (fun _ _ => rfl)) pa_nil)) pps_nil))) (by rfl) (by rfl) (fun z => by cases z) (by decide)))
      (pss_cons (ps_if (pt_cmpR op_eq (pe_ix ix_tup (pv 1) pe_int (fun _ _ => rfl)) pe_str (nomark _)) (pss_one (ps_asg (pe_ix ix_tup (pv 1) pe_int (fun _ _ => rfl)) (pg_sub (pe_dget (hu_of hr) (pv 2) pe_str (fun _ _ => rfl)) (pe_slice sl_tup (pv 1) (po_some pe_int) (po_some pe_int)) (set_dict (hu_of hr))))) pss_nil)
      (pss_cons (ps_if (pt_cmpR op_eq (pe_ix ix_tup (pv 1) pe_int (fun _ _ => rfl)) pe_str (nomark _)) (pss_one (ps_asg (pe_ix ix_tup (pv 1) pe_int (fun _ _ => rfl)) (pg_sub (pe_dget (hu_of hr) (pv 2) pe_str (fun _ _ => rfl)) (pe_ix ix_tup (pv 1) pe_int (fun _ _ => rfl)) (set_dict (hu_of hr))))) pss_nil)
      (pss_cons (ps_if (pt_cmpR op_eq (pe_ix ix_tup (pv 1) pe_int (fun _ _ => rfl)) pe_str (nomark _)) (pss_one (ps_asg (pe_op op_cat (pe_dget2 (hu_of hr) (pe_dget (hu_of hr) (pv 2) pe_str (fun _ _ => rfl)) (pe_slice sl_tup (pv 1) (po_some pe_int) (po_some pe_int)) (pe_lst pa_nil) ⟨by rfl, by rfl, by rfl, by rfl⟩) (pe_lst (pa_cons (pe_ix ix_tup (pv 1) pe_int (fun _ _ => rfl)) pa_nil))) (pg_sub (pe_dget (hu_of hr) (pv 2) pe_str (fun _ _ => rfl)) (pe_slice sl_tup (pv 1) (po_some pe_int) (po_some pe_int)) (set_dict (hu_of hr))))) pss_nil)
      (pss_cons (ps_if (pt_cmpR op_eq (pe_ix ix_tup (pv 1) pe_int (fun _ _ => rfl)) pe_str (nomark _)) (pss_one (ps_asg (pe_slice sl_list (pe_dget2 (hu_of hr) (pe_dget (hu_of hr) (pv 2) pe_str (fun _ _ => rfl)) (pe_slice sl_tup (pv 1) (po_some pe_int) (po_some pe_int)) (pe_lst pa_nil) ⟨by rfl, by rfl, by rfl, by rfl⟩) (po_some pe_int) po_none) (pg_sub (pe_dget (hu_of hr) (pv 2) pe_str (fun _ _ => rfl)) (pe_slice sl_tup (pv 1) (po_some pe_int) (po_some pe_int)) (set_dict (hu_of hr))))) pss_nil)
      (pss_one (ps_ret (pv 2)))))))), ?_⟩
    have g := Go.refl (m := fun _ => False) e0
    obtain ⟨sa, sb, sc, sd, hm, hsa, hsd, hsb, hsc⟩ := hM.ex
    refine fun p hp => ?_
    obtain ⟨H1, e1, g, hpp, x1, Bp, Zp⟩ := g.ly (.dK []) hp
    rw [e1]
    refine ⟨_, rfl, m, _, rfl, DGet.k (k := Sum.inr "sounds") (x1 _ _ (e0 _ _ hm)), sa, sd, rfl, x1 _ _ (e0 _ _ hsa), ckey_s hsd ks, fun a ha => ?_⟩
    have npa := ne_of_none hpp ha
    obtain ⟨H2, e2, g, haa, x2, Ba, Za⟩ := g.ly (.dT sd) ha
    have hpp := x2 _ _ hpp
    have x2 := x1.trans x2
    rw [e2]
    refine ⟨_, rfl, m, _, rfl, DGet.k (k := Sum.inr "knobs") (x2 _ _ (e0 _ _ hm)), sb, _, rfl, x2 _ _ (e0 _ _ hsb), ckey_n kn, fun b hb => ?_⟩
    have npb := ne_of_none hpp hb
    have nab := ne_of_none haa hb
    obtain ⟨H3, e3, g, hbb, x3, Bb, Zb⟩ := g.ly (.dT (M.n.map fun e => (kCK e.1, V.int e.2))) hb
    have hpp := x3 _ _ hpp
    have haa := x3 _ _ haa
    have x3 := x2.trans x3
    rw [e3]
    refine ⟨_, rfl, m, _, rfl, DGet.k (k := Sum.inr "voices") (x3 _ _ (e0 _ _ hm)), sc, _, rfl, x3 _ _ (e0 _ _ hsc), fun c hc => ?_⟩
    have npc := ne_of_none hpp hc
    have nac := ne_of_none haa hc
    have nbc := ne_of_none hbb hc
    obtain ⟨H4, e4, g, hcc, x4, Bc, Zc⟩ := g.ly (.dK (M.v.map fun e => (Sum.inl e.1, V.int e.2))) hc
    have hpp := x4 _ _ hpp
    have haa := x4 _ _ haa
    have hbb := x4 _ _ hbb
    have x4 := x3.trans x4
    rw [e4]
    refine ⟨hpp, [(Sum.inr "sounds", .ref a), (Sum.inr "knobs", .ref b), (Sum.inr "voices", .ref c)], rfl, (by show 3 ≤ 15; decide), ?_⟩
    rw [merge3]
    have g := g.turn (.dK [(Sum.inr "sounds", .ref a), (Sum.inr "knobs", .ref b), (Sum.inr "voices", .ref c)]) Bp Zp
    have haa := (upd_ne (o := HO.dK [(Sum.inr "sounds", .ref a), (Sum.inr "knobs", .ref b), (Sum.inr "voices", .ref c)]) npa.symm).trans haa
    have hbb := (upd_ne (o := HO.dK [(Sum.inr "sounds", .ref a), (Sum.inr "knobs", .ref b), (Sum.inr "voices", .ref c)]) npb.symm).trans hbb
    have hcc := (upd_ne (o := HO.dK [(Sum.inr "sounds", .ref a), (Sum.inr "knobs", .ref b), (Sum.inr "voices", .ref c)]) npc.symm).trans hcc
    have hpp := upd_same (H := H4) (a := p) (o := HO.dK [(Sum.inr "sounds", .ref a), (Sum.inr "knobs", .ref b), (Sum.inr "voices", .ref c)])
    clear e1 e2 e3 e4 x1 x2 x3 x4
    generalize upd H4 p (.dK [(Sum.inr "sounds", .ref a), (Sum.inr "knobs", .ref b), (Sum.inr "voices", .ref c)]) = H5 at *
    have hT : ∀ {H : Hp}, Go (fun _ => False) H0 B H0 H → SqT K H t e.th := fun g => SqT.of (g.inn _ _ ht)
    have hsl := hsd
    cases e with
    | knob t0 c0 k0 v0 =>
      have th : (Evt.knob t0 c0 k0 v0).th = [.str "knob", .int c0, .int k0, .int v0] := rfl
      rw [th] at *
      refine ⟨_, rfl, t, _, _, _, rfl, rfl, hT g, at_of (j := 0) rfl rfl, rfl, _, rfl, ifT (decide_eq_true rfl) ?_⟩
      refine ⟨_, rfl, t, _, _, _, rfl, rfl, hT g, at_of (j := 3) rfl rfl, _, rfl, p, _, rfl, DGet.k (k := Sum.inr "knobs") hpp, _, rfl, _, rfl, _, rfl, t, _, rfl, hT g, ?_, fun w hw => ?_⟩
      · show ¬ (HT.sIx 4 0 (some 1) = 0 ∧ HT.sIx 4 4 (some 3) = 4)
        decide
      rw [show cutV (Evt.knob t0 c0 k0 v0).th (some 1) (some 3) = (kCK (c0, k0)).map kV from rfl]
      have nbw := ne_of_none hbb hw
      have naw := ne_of_none haa hw
      have ncw := ne_of_none hcc hw
      have npw := ne_of_none hpp hw
      obtain ⟨H6, e6, g, hww, x6, _, _⟩ := g.ly (.tup ((kCK (c0, k0)).map kV)) hw
      have hpp := x6 _ _ hpp
      have haa := x6 _ _ haa
      have hbb := x6 _ _ hbb
      have hcc := x6 _ _ hcc
      rw [e6]
      refine ⟨b, _, rfl, DPut.t (k := kCK (c0, k0)) hbb hww (mem_lt (by rw [List.length_map]; omega)), ?_⟩
      rw [← putA_map (f := kCK) (fun _ _ h => kCK_inj h) V.int M.n (c0, k0) v0]
      have g := g.turn (.dT ((putA M.n (c0, k0) v0).map fun e => (kCK e.1, V.int e.2))) Bb Zb
      have hpp := (upd_ne (o := .dT ((putA M.n (c0, k0) v0).map fun e => (kCK e.1, V.int e.2))) npb).trans hpp
      have haa := (upd_ne (o := .dT ((putA M.n (c0, k0) v0).map fun e => (kCK e.1, V.int e.2))) nab).trans haa
      have hcc := (upd_ne (o := .dT ((putA M.n (c0, k0) v0).map fun e => (kCK e.1, V.int e.2))) nbc.symm).trans hcc
      have hbb := upd_same (H := H6) (a := b) (o := .dT ((putA M.n (c0, k0) v0).map fun e => (kCK e.1, V.int e.2)))
      generalize upd H6 b (.dT ((putA M.n (c0, k0) v0).map fun e => (kCK e.1, V.int e.2))) = H7 at *
      refine ⟨_, rfl, t, _, _, _, rfl, rfl, hT g, at_of (j := 0) rfl rfl, rfl, _, rfl, ifF (by decide +kernel) ?_⟩
      refine ⟨_, rfl, t, _, _, _, rfl, rfl, hT g, at_of (j := 0) rfl rfl, rfl, _, rfl, ifF (by decide +kernel) ?_⟩
      refine ⟨_, rfl, t, _, _, _, rfl, rfl, hT g, at_of (j := 0) rfl rfl, rfl, _, rfl, ifF (by decide +kernel) ?_⟩
      obtain ⟨G, gG, xG, all⟩ := g.all
      exact ⟨_, rfl, q p G _ gG ⟨a, b, c, sd, all _ _ Bp hpp, all _ _ Ba haa, Paired.mapP hsd fun _ _ z => ⟨z.1, z.2.choose, z.2.choose_spec.1, xG _ _ z.2.choose_spec.2⟩, all _ _ Bb hbb, all _ _ Bc hcc⟩⟩
    | voice t0 c0 v0 =>
      have th : (Evt.voice t0 c0 v0).th = [.str "voice", .int c0, .int v0] := rfl
      rw [th] at *
      refine ⟨_, rfl, t, _, _, _, rfl, rfl, hT g, at_of (j := 0) rfl rfl, rfl, _, rfl, ifF (by decide +kernel) ?_⟩
      refine ⟨_, rfl, t, _, _, _, rfl, rfl, hT g, at_of (j := 0) rfl rfl, rfl, _, rfl, ifT (decide_eq_true rfl) ?_⟩
      refine ⟨_, rfl, t, _, _, _, rfl, rfl, hT g, at_of (j := 2) rfl rfl, _, rfl, p, _, rfl, DGet.k (k := Sum.inr "voices") hpp, _, rfl, t, _, _, _, rfl, rfl, hT g, at_of (j := 1) rfl rfl, ?_⟩
      refine ⟨c, _, rfl, DPut.k (k := Sum.inl c0) hcc (mem_lt (by rw [List.length_map]; omega)), ?_⟩
      rw [← putA_map (f := fun x : Int => (Sum.inl x : Key)) (fun _ _ h => Sum.inl.inj h) V.int M.v c0 v0]
      have g := g.turn (.dK ((putA M.v c0 v0).map fun e => (Sum.inl e.1, V.int e.2))) Bc Zc
      have hpp := (upd_ne (o := .dK ((putA M.v c0 v0).map fun e => (Sum.inl e.1, V.int e.2))) npc).trans hpp
      have haa := (upd_ne (o := .dK ((putA M.v c0 v0).map fun e => (Sum.inl e.1, V.int e.2))) nac).trans haa
      have hbb := (upd_ne (o := .dK ((putA M.v c0 v0).map fun e => (Sum.inl e.1, V.int e.2))) nbc).trans hbb
      have hcc := upd_same (H := H5) (a := c) (o := .dK ((putA M.v c0 v0).map fun e => (Sum.inl e.1, V.int e.2)))
      generalize upd H5 c (.dK ((putA M.v c0 v0).map fun e => (Sum.inl e.1, V.int e.2))) = H7 at *
      refine ⟨_, rfl, t, _, _, _, rfl, rfl, hT g, at_of (j := 0) rfl rfl, rfl, _, rfl, ifF (by decide +kernel) ?_⟩
      refine ⟨_, rfl, t, _, _, _, rfl, rfl, hT g, at_of (j := 0) rfl rfl, rfl, _, rfl, ifF (by decide +kernel) ?_⟩
      obtain ⟨G, gG, xG, all⟩ := g.all
      exact ⟨_, rfl, q p G _ gG ⟨a, b, c, sd, all _ _ Bp hpp, all _ _ Ba haa, Paired.mapP hsd fun _ _ z => ⟨z.1, z.2.choose, z.2.choose_spec.1, xG _ _ z.2.choose_spec.2⟩, all _ _ Bb hbb, all _ _ Bc hcc⟩⟩
    | mark t0 x =>
      have th : (Evt.mark t0 x).th = [.str "mark", .str x] := rfl
      rw [th] at *
      refine ⟨_, rfl, t, _, _, _, rfl, rfl, hT g, at_of (j := 0) rfl rfl, rfl, _, rfl, ifF (by decide +kernel) ?_⟩
      refine ⟨_, rfl, t, _, _, _, rfl, rfl, hT g, at_of (j := 0) rfl rfl, rfl, _, rfl, ifF (by decide +kernel) ?_⟩
      refine ⟨_, rfl, t, _, _, _, rfl, rfl, hT g, at_of (j := 0) rfl rfl, rfl, _, rfl, ifF (by decide +kernel) ?_⟩
      refine ⟨_, rfl, t, _, _, _, rfl, rfl, hT g, at_of (j := 0) rfl rfl, rfl, _, rfl, ifF (by decide +kernel) ?_⟩
      obtain ⟨G, gG, xG, all⟩ := g.all
      exact ⟨_, rfl, q p G _ gG ⟨a, b, c, sd, all _ _ Bp hpp, all _ _ Ba haa, Paired.mapP hsd fun _ _ z => ⟨z.1, z.2.choose, z.2.choose_spec.1, xG _ _ z.2.choose_spec.2⟩, all _ _ Bb hbb, all _ _ Bc hcc⟩⟩
    | key on t0 c0 k0 f0 =>
      have vs := val_s (ck := (c0, k0)) hsd
      have keepS : ∀ {H : Hp} {L : Addr} {o : HO}, Go (fun _ => False) H0 B H0 H → H0 L = some o → H L = some o := fun g h => g.inn _ _ h
      cases on with
      | true =>
        have th : (Evt.key true t0 c0 k0 f0).th = [.str "on", .int c0, .int k0, .int f0] := rfl
        rw [th] at *
        refine ⟨_, rfl, t, _, _, _, rfl, rfl, hT g, at_of (j := 0) rfl rfl, rfl, _, rfl, ifF (by decide +kernel) ?_⟩
        refine ⟨_, rfl, t, _, _, _, rfl, rfl, hT g, at_of (j := 0) rfl rfl, rfl, _, rfl, ifF (by decide +kernel) ?_⟩
        refine ⟨_, rfl, t, _, _, _, rfl, rfl, hT g, at_of (j := 0) rfl rfl, rfl, _, rfl, ifT (decide_eq_true rfl) ?_⟩
        refine ⟨_, rfl, p, _, rfl, DGet.k (k := Sum.inr "sounds") hpp, a, rfl, .inr ⟨_, .inl haa⟩, _, rfl, _, rfl, _, rfl, t, _, rfl, hT g, ?_, fun w hw => ?_⟩
        · show ¬ (HT.sIx 4 0 (some 1) = 0 ∧ HT.sIx 4 4 (some 3) = 4)
          decide
        rw [show cutV (Evt.key true t0 c0 k0 f0).th (some 1) (some 3) = (kCK (c0, k0)).map kV from rfl]
        have nbw := ne_of_none hbb hw
        have naw := ne_of_none haa hw
        obtain ⟨H6, e6, g, hww, x6, _, _⟩ := g.ly (.tup ((kCK (c0, k0)).map kV)) hw
        have hpp := x6 _ _ hpp
        have haa := x6 _ _ haa
        have hbb := x6 _ _ hbb
        have hcc := x6 _ _ hcc
        rw [e6]
        refine ⟨(by show 0 ≤ sizeLine; decide), fun z hz => ?_⟩
        obtain ⟨H7, e7, g, hzz, x7, _, _⟩ := g.ly (.lst []) hz
        have hpp := x7 _ _ hpp
        have haa := x7 _ _ haa
        have hbb := x7 _ _ hbb
        have hcc := x7 _ _ hcc
        have hww := x7 _ _ hww
        rw [e7]
        refine ⟨_, DGet.t (k := kCK (c0, k0)) haa hww, ?_⟩
        obtain ⟨L, eL, hL⟩ : ∃ L, (valV sd (kCK (c0, k0))).getD (.ref z) = .ref L ∧ H7 L = some (.lst ((getA M.s (c0, k0) []).map V.int)) := by
          rcases vs with ⟨L, h1, h2⟩ | ⟨h1, h2⟩
          · exact ⟨L, by rw [h1]; rfl, g.inn _ _ h2⟩
          · exact ⟨z, by rw [h1]; rfl, by rw [h2]; exact hzz⟩
        rw [eL]
        have gl := getA_len (ck := (c0, k0)) ll
        have lsd := Paired.length hsd
        refine ⟨_, rfl, t, _, _, _, rfl, rfl, hT g, at_of (j := 3) rfl rfl, (by show 1 ≤ sizeLine; decide), fun u hu => ?_⟩
        obtain ⟨H8, e8, g, huu, x8, _, _⟩ := g.ly (.lst [.int f0]) hu
        have hpp := x8 _ _ hpp
        have haa := x8 _ _ haa
        have hbb := x8 _ _ hbb
        have hcc := x8 _ _ hcc
        have hL := x8 _ _ hL
        rw [e8]
        refine ⟨L, u, _, _, rfl, rfl, hL, huu, mem_sz (by rw [List.length_map]; show _ + 1 ≤ _; omega), fun v hv => ?_⟩
        rw [show (getA M.s (c0, k0) []).map V.int ++ [.int f0] = (getA M.s (c0, k0) [] ++ [f0]).map V.int by rw [List.map_append]; rfl]
        obtain ⟨H9, e9, g, hvv, x9, Bv, Zv⟩ := g.ly (.lst ((getA M.s (c0, k0) [] ++ [f0]).map V.int)) hv
        have nav := ne_of_none haa hv
        have hpp := x9 _ _ hpp
        have haa := x9 _ _ haa
        have hbb := x9 _ _ hbb
        have hcc := x9 _ _ hcc
        rw [e9]
        refine ⟨_, rfl, p, _, rfl, DGet.k (k := Sum.inr "sounds") hpp, _, rfl, _, rfl, _, rfl, t, _, rfl, hT g, ?_, fun w2 hw2 => ?_⟩
        · show ¬ (HT.sIx 4 0 (some 1) = 0 ∧ HT.sIx 4 4 (some 3) = 4)
          decide
        rw [show cutV (Evt.key true t0 c0 k0 f0).th (some 1) (some 3) = (kCK (c0, k0)).map kV from rfl]
        obtain ⟨H10, e10, g, hw2, x10, _, _⟩ := g.ly (.tup ((kCK (c0, k0)).map kV)) hw2
        have hpp := x10 _ _ hpp
        have haa := x10 _ _ haa
        have hbb := x10 _ _ hbb
        have hcc := x10 _ _ hcc
        have hvv := x10 _ _ hvv
        rw [e10]
        refine ⟨a, _, rfl, DPut.t (k := kCK (c0, k0)) haa hw2 (mem_lt (by omega)), ?_⟩
        have g := g.turn (.dT (putK sd (kCK (c0, k0)) (.ref v))) Ba Za
        have hpp := (upd_ne (o := .dT (putK sd (kCK (c0, k0)) (.ref v))) npa).trans hpp
        have hbb := (upd_ne (o := .dT (putK sd (kCK (c0, k0)) (.ref v))) nab.symm).trans hbb
        have hcc := (upd_ne (o := .dT (putK sd (kCK (c0, k0)) (.ref v))) nac.symm).trans hcc
        have hvv := (upd_ne (o := .dT (putK sd (kCK (c0, k0)) (.ref v))) nav.symm).trans hvv
        have haa := upd_same (H := H10) (a := a) (o := .dT (putK sd (kCK (c0, k0)) (.ref v)))
        generalize upd H10 a (.dT (putK sd (kCK (c0, k0)) (.ref v))) = H11 at *
        refine ⟨_, rfl, t, _, _, _, rfl, rfl, hT g, at_of (j := 0) rfl rfl, rfl, _, rfl, ifF (by decide +kernel) ?_⟩
        obtain ⟨G, gG, xG, all⟩ := g.all
        exact ⟨_, rfl, q p G _ gG ⟨a, b, c, _, all _ _ Bp hpp, all _ _ Ba haa, paired_put hsd (fun e he L o _ h => xG _ _ h) (all _ _ Bv hvv), all _ _ Bb hbb, all _ _ Bc hcc⟩⟩
      | false =>
        have th : (Evt.key false t0 c0 k0 f0).th = [.str "off", .int c0, .int k0, .int f0] := rfl
        rw [th] at *
        refine ⟨_, rfl, t, _, _, _, rfl, rfl, hT g, at_of (j := 0) rfl rfl, rfl, _, rfl, ifF (by decide +kernel) ?_⟩
        refine ⟨_, rfl, t, _, _, _, rfl, rfl, hT g, at_of (j := 0) rfl rfl, rfl, _, rfl, ifF (by decide +kernel) ?_⟩
        refine ⟨_, rfl, t, _, _, _, rfl, rfl, hT g, at_of (j := 0) rfl rfl, rfl, _, rfl, ifF (by decide +kernel) ?_⟩
        refine ⟨_, rfl, t, _, _, _, rfl, rfl, hT g, at_of (j := 0) rfl rfl, rfl, _, rfl, ifT (decide_eq_true rfl) ?_⟩
        refine ⟨_, rfl, p, _, rfl, DGet.k (k := Sum.inr "sounds") hpp, a, rfl, .inr ⟨_, .inl haa⟩, _, rfl, _, rfl, _, rfl, t, _, rfl, hT g, ?_, fun w hw => ?_⟩
        · show ¬ (HT.sIx 4 0 (some 1) = 0 ∧ HT.sIx 4 4 (some 3) = 4)
          decide
        rw [show cutV (Evt.key false t0 c0 k0 f0).th (some 1) (some 3) = (kCK (c0, k0)).map kV from rfl]
        have nbw := ne_of_none hbb hw
        have naw := ne_of_none haa hw
        obtain ⟨H6, e6, g, hww, x6, _, _⟩ := g.ly (.tup ((kCK (c0, k0)).map kV)) hw
        have hpp := x6 _ _ hpp
        have haa := x6 _ _ haa
        have hbb := x6 _ _ hbb
        have hcc := x6 _ _ hcc
        rw [e6]
        refine ⟨(by show 0 ≤ sizeLine; decide), fun z hz => ?_⟩
        obtain ⟨H7, e7, g, hzz, x7, _, _⟩ := g.ly (.lst []) hz
        have hpp := x7 _ _ hpp
        have haa := x7 _ _ haa
        have hbb := x7 _ _ hbb
        have hcc := x7 _ _ hcc
        have hww := x7 _ _ hww
        rw [e7]
        refine ⟨_, DGet.t (k := kCK (c0, k0)) haa hww, ?_⟩
        obtain ⟨L, eL, hL⟩ : ∃ L, (valV sd (kCK (c0, k0))).getD (.ref z) = .ref L ∧ H7 L = some (.lst ((getA M.s (c0, k0) []).map V.int)) := by
          rcases vs with ⟨L, h1, h2⟩ | ⟨h1, h2⟩
          · exact ⟨L, by rw [h1]; rfl, g.inn _ _ h2⟩
          · exact ⟨z, by rw [h1]; rfl, by rw [h2]; exact hzz⟩
        rw [eL]
        have gl := getA_len (ck := (c0, k0)) ll
        have lsd := Paired.length hsd
        refine ⟨_, rfl, L, _, rfl, SqL.of hL, fun v hv => ?_⟩
        rw [show cutV ((getA M.s (c0, k0) []).map V.int) (some 1) none = ((getA M.s (c0, k0) []).drop 1).map V.int by
          cases hg : getA M.s (c0, k0) [] with
          | nil => decide +kernel
          | cons y ys =>
            exact cutV_drop (((y :: ys).map V.int)) 1 (by rw [List.length_map, List.length_cons]; omega)]
        obtain ⟨H9, e9, g, hvv, x9, Bv, Zv⟩ := g.ly (.lst (((getA M.s (c0, k0) []).drop 1).map V.int)) hv
        have nav := ne_of_none haa hv
        have hpp := x9 _ _ hpp
        have haa := x9 _ _ haa
        have hbb := x9 _ _ hbb
        have hcc := x9 _ _ hcc
        rw [e9]
        refine ⟨_, rfl, p, _, rfl, DGet.k (k := Sum.inr "sounds") hpp, _, rfl, _, rfl, _, rfl, t, _, rfl, hT g, ?_, fun w2 hw2 => ?_⟩
        · show ¬ (HT.sIx 4 0 (some 1) = 0 ∧ HT.sIx 4 4 (some 3) = 4)
          decide
        rw [show cutV (Evt.key false t0 c0 k0 f0).th (some 1) (some 3) = (kCK (c0, k0)).map kV from rfl]
        obtain ⟨H10, e10, g, hw2, x10, _, _⟩ := g.ly (.tup ((kCK (c0, k0)).map kV)) hw2
        have hpp := x10 _ _ hpp
        have haa := x10 _ _ haa
        have hbb := x10 _ _ hbb
        have hcc := x10 _ _ hcc
        have hvv := x10 _ _ hvv
        rw [e10]
        refine ⟨a, _, rfl, DPut.t (k := kCK (c0, k0)) haa hw2 (mem_lt (by omega)), ?_⟩
        have g := g.turn (.dT (putK sd (kCK (c0, k0)) (.ref v))) Ba Za
        have hpp := (upd_ne (o := .dT (putK sd (kCK (c0, k0)) (.ref v))) npa).trans hpp
        have hbb := (upd_ne (o := .dT (putK sd (kCK (c0, k0)) (.ref v))) nab.symm).trans hbb
        have hcc := (upd_ne (o := .dT (putK sd (kCK (c0, k0)) (.ref v))) nac.symm).trans hcc
        have hvv := (upd_ne (o := .dT (putK sd (kCK (c0, k0)) (.ref v))) nav.symm).trans hvv
        have haa := upd_same (H := H10) (a := a) (o := .dT (putK sd (kCK (c0, k0)) (.ref v)))
        generalize upd H10 a (.dT (putK sd (kCK (c0, k0)) (.ref v))) = H11 at *
        obtain ⟨G, gG, xG, all⟩ := g.all
        exact ⟨_, rfl, q p G _ gG ⟨a, b, c, _, all _ _ Bp hpp, all _ _ Ba haa, paired_put hsd (fun e he L o _ h => xG _ _ h) (all _ _ Bv hvv), all _ _ Bb hbb, all _ _ Bc hcc⟩⟩
abbrev s_m_behind : Stmt := topS 28
theorem sc_m_behind : FnScope ["_law_m", "_law_track", "_law_found", "_law_event"] ["_law_m", "_law_track"] (defScope s_m_behind) := ⟨rfl, rfl, rfl, by decide +kernel, rfl, by decide +kernel, by decide +kernel⟩
theorem ok_behind {f : Addr} {fd : FuncData} (F : Fun K "_law_behind" "_law_behind" s_m_behind f fd) (D__law_after : Def P w K mg base "_law_after" 1 spAfterM) : FnOk P w K mg base CX0 2 f fd ["_law_m", "_law_track"] spBehind := by
  refine F.ok sc_m_behind (fun vs H Q E h => ?_) (fun cdv A outer s B vs Q E hr h => ?_)
  · obtain ⟨m, r, ps, es, H0, rfl, _⟩ := h
    rfl
  · obtain ⟨m, r, ps, es, H0, rfl, e0, hM, hr0, hev, hl, hok, q⟩ := h
    refine ⟨_, (pss_cons (ps_set (i := 2) sc_m_behind.nd rfl (Or.inl rfl) (pv 0))
      (pss_cons (ps_for PassesOwn.never rfl (pi_list (pv 1)) (pg_name (i := 3) sc_m_behind.nd rfl (Or.inl rfl)) (pss_one (ps_set (i := 2) sc_m_behind.nd rfl (Or.inl rfl) (pe_d D__law_after (hr.mono (by decide)) rfl (pa_cons (pv 2) (pa_cons (pe_slice sl_tup (pv 3) (po_some pe_int) po_none) pa_nil))))))
      (pss_one (ps_ret (pv 2))))), ?_⟩
    have g := Go.refl (m := fun _ => False) e0
    have lp : (ps.map V.ref).length = es.length := by rw [List.length_map, hev.len]
    refine ⟨_, rfl, ?_⟩
    refine ⟨_, rfl, r, rfl, ⟨_, SqL.of (e0 _ _ hr0)⟩, ?_⟩
    refine for_list (K := K) (a := r) (xs := ps.map V.ref) (fun i σ H' => ∃ (v3 : Option V) (p : Addr) (G : Hp), σ = [some (.ref m), some (.ref r), some (.ref p), v3] ∧ Go (fun _ => False) H0 B G H' ∧ DMAt G p (dmOf (es.take i)))
      ⟨none, m, H0, rfl, g, hM⟩ (fun i σ H' _ ⟨_, _, G, _, g, _⟩ => SqL.of (g.inn _ _ (g.up _ _ hr0))) ?_ ?_
    · rintro i x σ H' hx ⟨v3, p, G, rfl, g, hp⟩
      obtain ⟨pe, e, rfl, hpe1, he, hpe⟩ := evs_at hev hx
      have hi := (List.getElem?_eq_some_iff.mp he).1
      have gf := fun {t : Addr} (h : H' t = none) => g.inn.free h
      obtain ⟨B1, _⟩ := dmOf_ok hok i (by omega)
      refine ⟨_, rfl, _, rfl, _, rfl, pe, _, rfl, SqT.of (g.inn _ _ (g.up _ _ hpe)), ?_, fun t ht => ?_⟩
      · intro z
        have := z.1
        rw [sI_one _ _ (by cases e <;> show 0 < _ + 1 <;> omega)] at this
        omega
      · rw [cut_th]
        have g := g.put (.tup e.th) ht
        have ok := hok e (List.mem_of_getElem? he)
        refine ⟨p, t, dmOf (es.take i), e, _, rfl, g.inn, hp.up (Ex.new ?_), upd_same, ok, B1.ks, B1.kn, Nat.le_trans B1.ls (by omega), Nat.le_trans B1.ln (by omega), Nat.le_trans B1.lv (by omega), fun x hx => Nat.le_trans (B1.ll x hx) (by omega), fun p2 G2 H2 g2 hp2 => ⟨_, p2, G2, rfl, g.then g2, ?_⟩⟩
        · exact gf ht
        · rw [take_snoc he, dmOf_snoc]
          exact hp2
    · rintro σ H' ⟨v3, p, G, rfl, g, hp⟩
      rw [lp, List.take_length] at hp
      exact ⟨_, rfl, q p G H' g hp⟩
end
end Rt

namespace Rt
open PySem PySem.Spec PyProof.Rows L2 RZ TL LamX
section
variable {P : Program} {w : World} {K : PySem.W.Frag} {mg : Str → Option Value} {base : Heap}
abbrev s_m_parts : Stmt := topS 26
theorem sc_m_parts : FnScope ["_law_m", "_law_sounds", "_law_place", "_law_knobs", "_law_force", "_law_one_here"] ["_law_m"] (defScope s_m_parts) := ⟨rfl, rfl, rfl, by decide +kernel, rfl, by decide +kernel, by decide +kernel⟩
def rwsD (rs : List (List Int)) : PyData := .list (rs.map fun r => .tuple (r.map .int))
def staD (st : Sta) : PyData := .list [rwsD st.snd, rwsD st.knb, rwsD st.voi]
theorem rws_keys {H : Hp} : ∀ {sd : List (List Key × V)} {bs : List Addr} {l : List (Int × Int)}, IsKeys H sd bs → sd.map (·.1) = l.map kCK → Rws H bs (l.map ck2)
  | _, _, [], .nil, _ => .nil
  | _, _, x :: l, .nil, h => nomatch h
  | _, _, [], .cons _ _, h => nomatch h
  | e :: sd, b :: bs, x :: l, .cons h1 t, h => by
    rw [List.map_cons, List.map_cons] at h
    injection h with h2 h3
    refine .cons ?_ (rws_keys t h3)
    have h1 : H b = some (.tup (e.1.map kV)) := h1
    rw [show e.1 = kCK x from h2] at h1
    exact h1
theorem keys_s {G : Hp} : ∀ {sd : List (List Key × V)} {l : List ((Int × Int) × List Int)}, Paired (entS G) sd l → sd.map (·.1) = (l.map (·.1)).map kCK
  | _, _, .nil => rfl
  | _, _, .cons h t => by
    rw [List.map_cons, List.map_cons, List.map_cons, keys_s t, h.1]
theorem val_s2 {G : Hp} {ck : Int × Int} : ∀ {sd : List (List Key × V)} {l : List ((Int × Int) × List Int)}, Paired (entS G) sd l → ck ∈ l.map (·.1) → ∃ L, valV sd (kCK ck) = some (.ref L) ∧ G L = some (.lst ((getA l ck []).map V.int))
  | _, _, .nil, hm => nomatch hm
  | e :: sd, x :: l, .cons h t, hm => by
    by_cases c : x.1 = ck
    · rcases val_s (ck := ck) (.cons h t) with r | ⟨h1, _⟩
      · exact r
      · exfalso
        have : valV (e :: sd) (kCK ck) = some e.2 := valV_pos (by rw [h.1, c])
        rw [h1] at this
        cases this
    · have hv : valV (e :: sd) (kCK ck) = valV sd (kCK ck) := valV_neg fun z => c (kCK_inj (h.1.symm.trans z))
      have hg : getA (x :: l) ck [] = getA l ck [] := by
        unfold getA
        rw [List.find?_cons, decide_eq_false c]
      rw [hv, hg]
      rw [List.map_cons] at hm
      rcases List.mem_cons.mp hm with z | hm
      · exact absurd z.symm c
      · exact val_s2 t hm
theorem srt_keys (l : List (Int × Int)) : ∃ L : List (Int × Int), srt (l.map ck2) = L.map ck2 ∧ L.Perm l ∧ L.Pairwise fun a b => TS.code 128 (ck2 a) ≤ TS.code 128 (ck2 b) := by
  have hp : (srt (l.map ck2)).Perm (l.map ck2) := List.mergeSort_perm _ leR
  have e : srt (l.map ck2) = ((srt (l.map ck2)).map rck).map ck2 := by
    rw [List.map_map]
    have : ∀ r ∈ srt (l.map ck2), (ck2 ∘ rck) r = id r := fun r hr => by
      obtain ⟨a, _, rfl⟩ := List.mem_map.mp (hp.subset hr)
      rfl
    rw [List.map_congr_left this, List.map_id]
  refine ⟨(srt (l.map ck2)).map rck, e, ?_, ?_⟩
  · have h := hp.map rck
    rw [List.map_map] at h
    have e2 : l.map (rck ∘ ck2) = l := by
      have : ∀ a ∈ l, (rck ∘ ck2) a = id a := fun a _ => rfl
      rw [List.map_congr_left this, List.map_id]
    rw [e2] at h
    exact h
  · have h := srt_sorted (l.map ck2)
    rw [e, List.pairwise_map] at h
    exact h
theorem val_n {ck : Int × Int} : ∀ {l : List ((Int × Int) × Int)}, ck ∈ l.map (·.1) → valV (l.map fun e => (kCK e.1, V.int e.2)) (kCK ck) = some (.int (getA l ck 0))
  | x :: l, hm => by
    rw [List.map_cons]
    unfold getA
    rw [List.find?_cons]
    by_cases c : x.1 = ck
    · rw [decide_eq_true c, valV_pos (by rw [c])]
      rfl
    · rw [decide_eq_false c, valV_neg fun z => c (kCK_inj z)]
      rw [List.map_cons] at hm
      rcases List.mem_cons.mp hm with z | hm
      · exact absurd z.symm c
      · exact val_n hm
theorem val_v {c : Int} : ∀ {l : List (Int × Int)}, c ∈ l.map (·.1) → valV (l.map fun e => ((Sum.inl e.1 : Key), V.int e.2)) (Sum.inl c) = some (.int (getA l c 0))
  | x :: l, hm => by
    rw [List.map_cons]
    unfold getA
    rw [List.find?_cons]
    by_cases e : x.1 = c
    · rw [decide_eq_true e, valV_pos (by rw [e])]
      rfl
    · rw [decide_eq_false e, valV_neg fun z => e (Sum.inl.inj z)]
      rw [List.map_cons] at hm
      rcases List.mem_cons.mp hm with z | hm
      · exact absurd z.symm e
      · exact val_v hm
theorem dp_intsM {K : PySem.W.Frag} {H : Hp} : ∀ ns : List Int, DpAll K H (ns.map V.int) (ns.map PyData.int)
  | [] => .nil
  | n :: ns => .cons (.int n) (dp_intsM ns)
theorem dp_rwsAM {K : PySem.W.Frag} {H : Hp} : ∀ {qs : List Addr} {rs : List (List Int)}, Rws H qs rs → DpAll K H (qs.map V.ref) (rs.map fun r => PyData.tuple (r.map .int))
  | _, _, .nil => .nil
  | _, _, .cons h t => .cons (.tup (SqT.of h) (dp_intsM _)) (dp_rwsAM t)
theorem dp_rwsM {K : PySem.W.Frag} {H : Hp} {a : Addr} {qs : List Addr} {rs : List (List Int)} (ha : H a = some (.lst (qs.map V.ref))) (h : Rws H qs rs) : Dp K H (.ref a) (rwsD rs) := .lst (SqL.of ha) (dp_rwsAM h)
theorem Rws.but {H : Hp} {qs : List Addr} {rs : List (List Int)} {D : Addr} {ys : List V} {o : HO} (h : Rws H qs rs) (hD : H D = some (.lst ys)) : Rws (upd H D o) qs rs := Paired.mapP h fun q ns z => (upd_ne fun e => by rw [e, hD] at z; cases z).trans z
theorem Rws.snoc' {H : Hp} {qs : List Addr} {rs : List (List Int)} {q : Addr} {r : List Int} (h : Rws H qs rs) (hq : H q = some (.tup (r.map V.int))) : Rws H (qs ++ [q]) (rs ++ [r]) := pairedApp h (.cons hq .nil)
def spParts (K : PySem.W.Frag) : Sp := fun vs H Q _ => ∃ (m : Addr) (M : DM) (st : Sta) (n : Nat) (H0 : Hp), vs = [.ref m] ∧ Ex H0 H ∧ DMAt H0 m M ∧ M.Is st ∧ DMB M n ∧ n ≤ 60 ∧ st.snd.length ≤ 60 ∧
  ∀ (p : Addr) (H' : Hp), Go (fun _ => False) H0 H H0 H' → Dp K H' (.ref p) (staD st) → Q (.ref p) H'
theorem ok_parts {f : Addr} {fd : FuncData} (F : Fun K "_law_parts" "_law_parts" s_m_parts f fd) (m_sorted : mg "sorted" = none) (m_list : mg "list" = none) : FnOk P w K mg base CX0 2 f fd ["_law_m"] (spParts K) := by
  refine F.ok sc_m_parts (fun vs H Q E h => ?_) (fun cdv A outer s B vs Q E hr h => ?_)
  · obtain ⟨m, M, st, n, H0, rfl, _⟩ := h
    rfl
  · obtain ⟨m, M, st, n, H0, rfl, e0, hM, I, hB, hn, hsn, q⟩ := h
    refine ⟨_, (pss_cons (ps_set (i := 1) sc_m_parts.nd rfl (Or.inl rfl) (pe_lst pa_nil))
      (pss_cons (ps_for PassesOwn.never rfl (pi_list (pe_callB (cr_sortT (d := 2) (B := 128) (by decide)) (by rfl) m_sorted bt_sorted (pa_cons (pe_callTy (call_list_dT rfl) (by rfl) m_list bt_list (pa_cons (pe_dget (hu_of hr) (pv 0) pe_str (fun _ _ => rfl)) pa_nil)) pa_nil))) (pg_name (i := 2) sc_m_parts.nd rfl (Or.inr rfl)) (pss_one (ps_set (i := 1) sc_m_parts.nd rfl (Or.inl rfl) (pe_op op_cat (pv 1) (pe_lc (own := [("_law_force", 4)]) (g := gName 4) (tt := tYes) rfl sc_m_parts.nd (pi_list (pe_dget (hu_of hr) (pe_dget (hu_of hr) (pv 0) pe_str (fun _ _ => rfl)) (pv 2) (fun _ _ => rfl))) (blkOk_by (N := ["_law_m", "_law_sounds", "_law_place", "_law_knobs", "_law_force", "_law_one_here"]) (sc := defScope s_m_parts) (by decide +kernel)) (fun _ _ _ _ _ => pg_name (i := 4) sc_m_parts.nd rfl (Or.inl rfl)) (fun _ _ _ _ _ => pts_nil) (fun _ _ _ _ _ => (pe_op (r := rCatA K) op_catA (pv 2) (pe_tup (pa_cons (pv 4) pa_nil)))))))))
      (pss_cons (ps_setLc (i := 3) (own := [("_law_place", 2)]) (g := gName 2)  rfl sc_m_parts.nd rfl rfl (sw_true rfl rfl rfl (by decide +kernel)) (pi_list (pe_callB (cr_sortT (d := 2) (B := 128) (by decide)) (by rfl) m_sorted bt_sorted (pa_cons (pe_callTy (call_list_dT rfl) (by rfl) m_list bt_list (pa_cons (pe_dget (hu_of hr) (pv 0) pe_str (fun _ _ => rfl)) pa_nil)) pa_nil))) (blkOk_by (N := ["_law_m", "_law_sounds", "_law_place", "_law_knobs", "_law_force", "_law_one_here"]) (sc := defScope s_m_parts) (by decide +kernel)) (fun _ _ _ _ _ => pg_name (i := 2) sc_m_parts.nd rfl (Or.inl rfl)) (fun _ _ _ _ _ => pts_one (pt_cmpR op_gt (pe_dget (hu_of hr) (pe_dget (hu_of hr) (pv 0) pe_str (fun _ _ => rfl)) (pv 2) (fun _ _ => rfl)) pe_int (nomark _))) (fun _ _ _ _ _ => (pe_op (r := rCatA K) op_catA (pv 2) (pe_tup (pa_cons (pe_dget (hu_of hr) (pe_dget (hu_of hr) (pv 0) pe_str (fun _ _ => rfl)) (pv 2) (fun _ _ => rfl)) pa_nil)))))
      (pss_one (ps_ret (pe_lst (pa_cons (pv 1) (pa_cons (pv 3) (pa_cons (pe_lc (own := [("_law_one_here", 5)]) (g := gName 5)  rfl sc_m_parts.nd (pi_list (pe_callB cr_sortedI (by rfl) m_sorted bt_sorted (pa_cons (pe_callTy (call_list_dK rfl) (by rfl) m_list bt_list (pa_cons (pe_dget (hu_of hr) (pv 0) pe_str (fun _ _ => rfl)) pa_nil)) pa_nil))) (blkOk_by (N := ["_law_m", "_law_sounds", "_law_place", "_law_knobs", "_law_force", "_law_one_here"]) (sc := defScope s_m_parts) (by decide +kernel)) (fun _ _ _ _ _ => pg_name (i := 5) sc_m_parts.nd rfl (Or.inl rfl)) (fun _ _ _ _ _ => pts_one (pt_cmpR op_gt (pe_dget (hu_of hr) (pe_dget (hu_of hr) (pv 0) pe_str (fun _ _ => rfl)) (pv 5) (fun _ _ => rfl)) pe_int (nomark _))) (fun _ _ _ _ _ => (pe_tup (pa_cons (pv 5) (pa_cons (pe_dget (hu_of hr) (pe_dget (hu_of hr) (pv 0) pe_str (fun _ _ => rfl)) (pv 5) (fun _ _ => rfl)) pa_nil))))) pa_nil))))))))), ?_⟩
    have g := Go.refl (m := fun _ => False) e0
    obtain ⟨sa, sb, sc, sd, hm, hsa, hsd, hsb, hsc⟩ := hM.ex
    have ck128 : ∀ k, CkI k → TS.Bd 128 (ck2 k) := fun k hk x hx => by
      have hx : x ∈ [k.1, k.2] := hx
      simp only [List.mem_cons, List.mem_nil_iff, or_false] at hx
      obtain ⟨⟨_, _⟩, _, _⟩ := hk
      rcases hx with rfl | rfl <;> constructor <;> omega
    refine ⟨(by show 0 ≤ sizeLine; decide), fun s0 hs0 => ?_⟩
    obtain ⟨H1, e1, g, hs0', x1, _, _⟩ := g.ly (.lst []) hs0
    rw [e1]
    -- sorted(list(m["sounds"]))
    refine ⟨_, rfl, m, _, rfl, DGet.k (k := Sum.inr "sounds") (g.inn _ _ hm), sa, sd, rfl, .inl (g.inn _ _ hsa), fun lp bs hlp isk => ?_⟩
    have R := rws_keys isk (keys_s hsd)
    obtain ⟨H2, e2, g, hlp', x2, _, _⟩ := g.ly (.lst (bs.map V.ref)) hlp
    have R := R.up x2
    have hs1 := x2 _ _ hs0'
    rw [e2]
    have kb : RowsB 2 ((M.s.map (·.1)).map ck2) := fun r hr => by
      obtain ⟨k, hk, rfl⟩ := List.mem_map.mp hr
      exact ⟨rfl, ck128 k (hB.ks k hk)⟩
    have lb : bs.length ≤ 60 := by
      rw [R.len, List.length_map, List.length_map]
      exact Nat.le_trans hB.ls hn
    refine ⟨lp, _, rfl, SqL.of hlp', by rw [List.length_map]; omega, fun x hx => ?_, fun ys p4 hperm hsort n4 => ?_⟩
    · obtain ⟨q', ns, rfl, hq, hmm⟩ := rws_mem R x hx
      exact ⟨ns, ⟨q', rfl, SqT.of hq⟩, (kb ns hmm).1, (kb ns hmm).2⟩
    obtain ⟨ks', rfl, R'⟩ := sorted_rows R kb (Ex.refl _) hperm hsort
    obtain ⟨L, eL, pL, sL⟩ := srt_keys (M.s.map (·.1))
    rw [eL] at R'
    have PS := I.parts_s (fun k hk => ⟨⟨(hB.ks k hk).1.1, Int.lt_of_lt_of_le (hB.ks k hk).1.2 (by decide)⟩, (hB.ks k hk).2⟩) pL sL
    obtain ⟨H3, e3, g, hp4, x3, _, _⟩ := g.ly (.lst (ks'.map V.ref)) n4
    have R' := R'.up x3
    have hs1 := x3 _ _ hs1
    rw [e3]
    have lks : ks'.length = L.length := by rw [R'.len, List.length_map]
    refine ⟨p4, rfl, ⟨_, SqL.of hp4⟩, ?_⟩
    refine for_list (K := K) (a := p4) (xs := ks'.map V.ref) (fun i σ H' => ∃ (v2 v3 v4 v5 : Option V) (s1 : Addr) (qs : List Addr), σ = [some (.ref m), some (.ref s1), v2, v3, v4, v5] ∧ Go (fun _ => False) H0 B H0 H' ∧ Ex H3 H' ∧ H' s1 = some (.lst (qs.map V.ref)) ∧ Rws H' qs ((L.take i).flatMap fun ck => (getA M.s ck []).map (rowS ck)))
      ⟨none, none, none, none, s0, [], rfl, g, Ex.refl _, hs1, .nil⟩ (fun i σ H' _ ⟨_, _, _, _, _, _, _, _, x, _⟩ => SqL.of (x _ _ hp4)) ?_ ?_
    · rintro i x σ H' hx ⟨v2, v3, v4, v5, s1, qs, rfl, g, xH, hs1, hR⟩
      rw [List.getElem?_map] at hx
      obtain ⟨kq, hkq, rfl⟩ := Option.map_eq_some_iff.mp hx
      obtain ⟨r, hr', hkr⟩ := pairedAt R' hkq
      rw [List.getElem?_map] at hr'
      obtain ⟨ck, hck, rfl⟩ := Option.map_eq_some_iff.mp hr'
      obtain ⟨l1, hv1, hl1⟩ := val_s2 hsd (pL.subset (List.mem_of_getElem? hck))
      have hkq' : H' kq = some (.tup ((kCK ck).map kV)) := xH _ _ hkr
      have dg : DGet H' sa (.ref kq) (some (.ref l1)) := by
        rw [← hv1]
        exact DGet.t (k := kCK ck) (g.inn _ _ hsa) hkq'
      have tk : (L.take (i + 1)).flatMap (fun ck => (getA M.s ck []).map (rowS ck)) = (L.take i).flatMap (fun ck => (getA M.s ck []).map (rowS ck)) ++ (getA M.s ck []).map (rowS ck) := by
        rw [take_snoc hck, List.flatMap_append]
        show _ ++ (_ ++ []) = _
        rw [List.append_nil]
      have tl : ((L.take (i + 1)).flatMap fun ck => (getA M.s ck []).map (rowS ck)).length ≤ 60 := by
        refine Nat.le_trans ?_ hsn
        rw [← PS, ← List.take_append_drop (i + 1) L, List.flatMap_append, List.length_append]
        rw [List.take_append_drop]
        exact Nat.le_add_right _ _
      rw [tk, List.length_append, List.length_map] at tl
      have lq := hR.len
      refine ⟨_, rfl, ?_⟩
      refine ⟨_, rfl, m, _, rfl, DGet.k (k := Sum.inr "sounds") (g.inn _ _ hm), _, rfl, sa, _, rfl, dg, l1, rfl, ⟨_, SqL.of (g.inn _ _ hl1)⟩, fun D hD => ?_⟩
      have BD := g.fresh hD
      have ZD := g.fresh0 hD
      have nsD := ne_of_none hs1 hD
      refine lc_list (xs := (getA M.s ck []).map V.int) (fun j HH => ∃ ts : List Addr, HH D = some (.lst (ts.map V.ref)) ∧ Rws HH ts (((getA M.s ck []).take j).map (rowS ck)) ∧ Go (fun _ => False) H0 B H0 HH ∧ Ex H' HH)
        ⟨[], upd_same, .nil, g.lay _ hD, Ex.new hD⟩ (fun j HH _ ⟨_, _, _, g, _⟩ => SqL.of (g.inn _ _ hl1)) ?_ ?_
      · rintro j x HH hx ⟨ts, h1, h2, g, xx⟩
        obtain ⟨f0, hf, rfl⟩ := map_int_inv hx
        have hj := (List.getElem?_eq_some_iff.mp hf).1
        refine ⟨rfl, ?_⟩
        refine ⟨_, rfl, _, rfl, (by show 1 ≤ sizeLine; decide), fun w hw => ?_⟩
        have nDw := ne_of_none h1 hw
        obtain ⟨H5, e5, g, hww, x5, _, _⟩ := g.ly (.tup [.int f0]) hw
        have h1 := x5 _ _ h1
        have h2 := h2.up x5
        have xx := xx.trans x5
        rw [e5]
        refine ⟨kq, w, _, _, rfl, rfl, SqT.of (xx _ _ hkq'), SqT.of hww, mem_sz (by show 2 + 1 ≤ 1000000; decide), (fun e => nomatch e), (fun _ e => nomatch e), fun _ _ t ht => ?_⟩
        have nDt := ne_of_none h1 ht
        obtain ⟨H6, e6, g, htt, x6, _, _⟩ := g.ly (.tup ((kCK ck).map kV ++ [.int f0])) ht
        have h1 := x6 _ _ h1
        have h2 := h2.up x6
        have xx := xx.trans x6
        rw [e6]
        have h2 := h2.snoc' (q := t) (r := rowS ck f0) htt
        have lts := h2.len
        rw [List.length_append, List.length_append, List.length_map, List.length_take] at lts
        refine ⟨_, h1, mem_lt (by rw [List.length_map]; have := lts; simp only [List.length_cons, List.length_nil] at this; omega), ts ++ [t], ?_, ?_, g.turn _ BD ZD, xx.turn _ hD⟩
        · rw [upd_same, List.map_append]
          rfl
        · rw [take_snoc hf, List.map_append]
          exact h2.but h1
      · rintro HH ⟨ts, h1, h2, g, xx⟩
        rw [List.length_map, List.take_length] at h2
        have lts := h2.len
        rw [List.length_map] at lts
        refine ⟨s1, D, _, _, rfl, rfl, xx _ _ hs1, h1, mem_sz (by rw [List.length_map, List.length_map]; omega), fun nw hnw => ?_⟩
        rw [← List.map_append]
        obtain ⟨H7, e7, g, hnn, x7, _, _⟩ := g.ly (.lst ((qs ++ ts).map V.ref)) hnw
        rw [e7]
        refine ⟨_, _, _, _, nw, qs ++ ts, rfl, g, xH.trans (xx.trans x7), hnn, ?_⟩
        rw [tk]
        exact pairedApp (hR.up (xx.trans x7)) (h2.up x7)
    · rintro σ H' ⟨v2, v3, v4, v5, s1, qs, rfl, g, xH, hs1, hR⟩
      rw [List.length_map, lks, List.take_length, PS] at hR
      -- knobs
      refine ⟨_, rfl, m, _, rfl, DGet.k (k := Sum.inr "knobs") (g.inn _ _ hm), sb, _, rfl, .inl (g.inn _ _ hsb), fun lp bs hlp isk => ?_⟩
      have R := rws_keys isk (l := M.n.map (·.1)) (by rw [List.map_map, List.map_map]; rfl)
      obtain ⟨H2, e2, g, hlp', x2, _, _⟩ := g.ly (.lst (bs.map V.ref)) hlp
      have R := R.up x2
      have xH := xH.trans x2
      have hs1 := x2 _ _ hs1
      have hR := hR.up x2
      rw [e2]
      have kb : RowsB 2 ((M.n.map (·.1)).map ck2) := fun r hr => by
        obtain ⟨k, hk, rfl⟩ := List.mem_map.mp hr
        exact ⟨rfl, ck128 k (hB.kn k hk)⟩
      have lb : bs.length ≤ 60 := by
        rw [R.len, List.length_map, List.length_map]
        exact Nat.le_trans hB.ln hn
      refine ⟨lp, _, rfl, SqL.of hlp', by rw [List.length_map]; omega, fun x hx => ?_, fun ys p5 hperm hsort n5 => ?_⟩
      · obtain ⟨q', ns, rfl, hq, hmm⟩ := rws_mem R x hx
        exact ⟨ns, ⟨q', rfl, SqT.of hq⟩, (kb ns hmm).1, (kb ns hmm).2⟩
      obtain ⟨ks', rfl, R'⟩ := sorted_rows R kb (Ex.refl _) hperm hsort
      obtain ⟨L, eL, pL, sL⟩ := srt_keys (M.n.map (·.1))
      rw [eL] at R'
      have PN := I.parts_n pL sL
      obtain ⟨H4, e4, g, hp5, x4, _, _⟩ := g.ly (.lst (ks'.map V.ref)) n5
      have R' := R'.up x4
      have hs1 := x4 _ _ hs1
      have hR := hR.up x4
      rw [e4]
      have lks : ks'.length = L.length := by rw [R'.len, List.length_map]
      have lL : L.length ≤ 60 := by
        rw [pL.length_eq, List.length_map]
        exact Nat.le_trans hB.ln hn
      refine ⟨p5, rfl, ⟨_, SqL.of hp5⟩, fun D hD => ?_⟩
      have BD := g.fresh hD
      have ZD := g.fresh0 hD
      refine lc_list (xs := ks'.map V.ref) (fun j HH => ∃ ts : List Addr, HH D = some (.lst (ts.map V.ref)) ∧ Rws HH ts (((L.take j).filter fun ck => decide (getA M.n ck 0 > 0)).map fun ck => rowS ck (getA M.n ck 0)) ∧ Go (fun _ => False) H0 B H0 HH ∧ Ex H4 HH)
        ⟨[], upd_same, .nil, g.lay _ hD, Ex.new hD⟩ (fun j HH _ ⟨_, _, _, _, x⟩ => SqL.of (x _ _ hp5)) ?_ ?_
      · rintro j x HH hx ⟨ts, h1, h2, g, xx⟩
        rw [List.getElem?_map] at hx
        obtain ⟨kq, hkq, rfl⟩ := Option.map_eq_some_iff.mp hx
        obtain ⟨r, hr', hkr⟩ := pairedAt R' hkq
        rw [List.getElem?_map] at hr'
        obtain ⟨ck, hck, rfl⟩ := Option.map_eq_some_iff.mp hr'
        have hj := (List.getElem?_eq_some_iff.mp hck).1
        have hkq' : HH kq = some (.tup ((kCK ck).map kV)) := xx _ _ hkr
        have dg : ∀ {H : Hp}, Go (fun _ => False) H0 B H0 H → H kq = some (.tup ((kCK ck).map kV)) → DGet H sb (.ref kq) (some (.int (getA M.n ck 0))) := fun g h => by
          rw [← val_n (pL.subset (List.mem_of_getElem? hck))]
          exact DGet.t (k := kCK ck) (g.inn _ _ hsb) h
        have tk : ((L.take (j + 1)).filter fun ck => decide (getA M.n ck 0 > 0)) = ((L.take j).filter fun ck => decide (getA M.n ck 0 > 0)) ++ [ck].filter fun ck => decide (getA M.n ck 0 > 0) := by
          rw [take_snoc hck, List.filter_append]
        refine ⟨rfl, ?_⟩
        refine ⟨_, rfl, m, _, rfl, DGet.k (k := Sum.inr "knobs") (g.inn _ _ hm), _, rfl, sb, _, rfl, dg g hkq', _, _, rfl, rfl, _, rfl, ?_⟩
        by_cases cv : getA M.n ck 0 > 0
        · refine ifT (decide_eq_true cv) ?_
          refine ⟨_, rfl, _, rfl, m, _, rfl, DGet.k (k := Sum.inr "knobs") (g.inn _ _ hm), _, rfl, sb, _, rfl, dg g hkq', (by show 1 ≤ sizeLine; decide), fun w hw => ?_⟩
          obtain ⟨H5, e5, g, hww, x5, _, _⟩ := g.ly (.tup [.int (getA M.n ck 0)]) hw
          have h1 := x5 _ _ h1
          have h2 := h2.up x5
          have xx := xx.trans x5
          rw [e5]
          refine ⟨kq, w, _, _, rfl, rfl, SqT.of (x5 _ _ hkq'), SqT.of hww, mem_sz (by show 2 + 1 ≤ 1000000; decide), (fun e => nomatch e), (fun _ e => nomatch e), fun _ _ t ht => ?_⟩
          obtain ⟨H6, e6, g, htt, x6, _, _⟩ := g.ly (.tup ((kCK ck).map kV ++ [.int (getA M.n ck 0)])) ht
          have h1 := x6 _ _ h1
          have h2 := h2.up x6
          have xx := xx.trans x6
          rw [e6]
          have lts := h2.len
          have lf : ((L.take j).filter fun ck => decide (getA M.n ck 0 > 0)).length ≤ j := Nat.le_trans (List.length_filter_le _ _) (by rw [List.length_take]; omega)
          rw [List.length_map] at lts
          have h2 := h2.snoc' (q := t) (r := rowS ck (getA M.n ck 0)) htt
          refine ⟨_, h1, mem_lt (by rw [List.length_map]; omega), ts ++ [t], ?_, ?_, g.turn _ BD ZD, xx.turn _ hD⟩
          · rw [upd_same, List.map_append]
            rfl
          · rw [tk, List.filter_cons_of_pos (p := fun ck => decide (getA M.n ck 0 > 0)) (decide_eq_true cv), List.filter_nil, List.map_append]
            exact h2.but h1
        · refine ifF (decide_eq_false cv) ?_
          refine ⟨ts, h1, ?_, g, xx⟩
          rw [tk, List.filter_cons_of_neg (p := fun ck => decide (getA M.n ck 0 > 0)) (by rw [decide_eq_false cv]; exact Bool.false_ne_true), List.filter_nil, List.append_nil]
          exact h2
      · rintro HH ⟨ts, h1, h2, g, xx⟩
        rw [List.length_map, lks, List.take_length, PN] at h2
        have hs1 := xx _ _ hs1
        have hR := hR.up xx
        -- the list of all three
        refine ⟨_, rfl, _, rfl, _, rfl, m, _, rfl, DGet.k (k := Sum.inr "voices") (g.inn _ _ hm), sc, _, rfl, g.inn _ _ hsc, fun lq hlq => ?_⟩
        rw [show (M.v.map fun e => ((Sum.inl e.1 : Key), V.int e.2)).map (fun kv => kV kv.1) = (M.v.map (·.1)).map V.int by rw [List.map_map, List.map_map]; rfl]
        have nDq := ne_of_none h1 hlq
        obtain ⟨H8, e8, g, hlq', x8, _, _⟩ := g.ly (.lst ((M.v.map (·.1)).map V.int)) hlq
        have h1 := x8 _ _ h1
        have h2 := h2.up x8
        have hs1 := x8 _ _ hs1
        have hR := hR.up x8
        rw [e8]
        refine ⟨lq, M.v.map (·.1), rfl, SqL.of hlq', fun ns p6 perm rising n6 => ?_⟩
        have PV := I.parts_v perm rising
        obtain ⟨H9, e9, g, hp6, x9, _, _⟩ := g.ly (.lst (ns.map V.int)) n6
        have h1 := x9 _ _ h1
        have h2 := h2.up x9
        have hs1 := x9 _ _ hs1
        have hR := hR.up x9
        rw [e9]
        have lL : ns.length ≤ 60 := by
          rw [perm.length_eq, List.length_map]
          exact Nat.le_trans hB.lv hn
        refine ⟨p6, rfl, ⟨_, SqL.of hp6⟩, fun D2 hD2 => ?_⟩
        have BD := g.fresh hD2
        have ZD := g.fresh0 hD2
        refine lc_list (xs := ns.map V.int) (fun j HH => ∃ ts : List Addr, HH D2 = some (.lst (ts.map V.ref)) ∧ Rws HH ts (((ns.take j).filter fun c => decide (getA M.v c 0 > 0)).map fun c => [c, getA M.v c 0]) ∧ Go (fun _ => False) H0 B H0 HH ∧ Ex H9 HH)
          ⟨[], upd_same, .nil, g.lay _ hD2, Ex.new hD2⟩ (fun j HH _ ⟨_, _, _, _, x⟩ => SqL.of (x _ _ hp6)) ?_ ?_
        · rintro j x HH hx ⟨us, h3, h4, g, xx⟩
          obtain ⟨c, hc, rfl⟩ := map_int_inv hx
          have hj := (List.getElem?_eq_some_iff.mp hc).1
          have dg : ∀ {H : Hp}, Go (fun _ => False) H0 B H0 H → DGet H sc (.int c) (some (.int (getA M.v c 0))) := fun g => by
            rw [← val_v (perm.subset (List.mem_of_getElem? hc))]
            exact DGet.k (k := Sum.inl c) (g.inn _ _ hsc)
          have tk : ((ns.take (j + 1)).filter fun c => decide (getA M.v c 0 > 0)) = ((ns.take j).filter fun c => decide (getA M.v c 0 > 0)) ++ [c].filter fun c => decide (getA M.v c 0 > 0) := by
            rw [take_snoc hc, List.filter_append]
          refine ⟨rfl, ?_⟩
          refine ⟨_, rfl, m, _, rfl, DGet.k (k := Sum.inr "voices") (g.inn _ _ hm), _, rfl, sc, _, rfl, dg g, _, _, rfl, rfl, _, rfl, ?_⟩
          by_cases cv : getA M.v c 0 > 0
          · refine ifT (decide_eq_true cv) ?_
            refine ⟨_, rfl, _, rfl, m, _, rfl, DGet.k (k := Sum.inr "voices") (g.inn _ _ hm), _, rfl, sc, _, rfl, dg g, (by show 2 ≤ sizeLine; decide), fun t ht => ?_⟩
            obtain ⟨H6, e6, g, htt, x6, _, _⟩ := g.ly (.tup [.int c, .int (getA M.v c 0)]) ht
            have h3 := x6 _ _ h3
            have h4 := h4.up x6
            have xx := xx.trans x6
            rw [e6]
            have lts := h4.len
            have lf : ((ns.take j).filter fun c => decide (getA M.v c 0 > 0)).length ≤ j := Nat.le_trans (List.length_filter_le _ _) (by rw [List.length_take]; omega)
            rw [List.length_map] at lts
            have h4 := h4.snoc' (q := t) (r := [c, getA M.v c 0]) htt
            refine ⟨_, h3, mem_lt (by rw [List.length_map]; omega), us ++ [t], ?_, ?_, g.turn _ BD ZD, xx.turn _ hD2⟩
            · rw [upd_same, List.map_append]
              rfl
            · rw [tk, List.filter_cons_of_pos (p := fun c => decide (getA M.v c 0 > 0)) (decide_eq_true cv), List.filter_nil, List.map_append]
              exact h4.but h3
          · refine ifF (decide_eq_false cv) ?_
            refine ⟨us, h3, ?_, g, xx⟩
            rw [tk, List.filter_cons_of_neg (p := fun c => decide (getA M.v c 0 > 0)) (by rw [decide_eq_false cv]; exact Bool.false_ne_true), List.filter_nil, List.append_nil]
            exact h4
        · rintro HH ⟨us, h3, h4, g, xx⟩
          rw [List.length_map, List.take_length, PV] at h4
          have h1 := xx _ _ h1
          have h2 := h2.up xx
          have hs1 := xx _ _ hs1
          have hR := hR.up xx
          refine ⟨(by show 3 ≤ sizeLine; decide), fun p hp => q p _ (g.lay _ hp) ?_⟩
          have xp := Ex.new (o := .lst [.ref s1, .ref D, .ref D2]) hp
          exact .lst (SqL.of upd_same) (.cons (dp_rwsM (xp _ _ hs1) (hR.up xp)) (.cons (dp_rwsM (xp _ _ h1) (h2.up xp)) (.cons (dp_rwsM (xp _ _ h3) (h4.up xp)) .nil)))
end
end Rt

namespace Rt
open PySem PySem.Spec PyProof.Rows L2 RZ TL LamX
section
variable {P : Program} {w : World} {K : PySem.W.Frag} {mg : Str → Option Value} {base : Heap}
abbrev s_m_up_to : Stmt := topS 30
theorem sc_m_up_to : FnScope ["_law_track", "_law_tick_here", "_law_event"] ["_law_track", "_law_tick_here"] (defScope s_m_up_to) := ⟨rfl, rfl, rfl, by decide +kernel, rfl, by decide +kernel, by decide +kernel⟩
def spUpToM : Sp := fun vs H Q _ => ∃ (r : Addr) (t : Int) (ps : List Addr) (es : List Evt) (H0 : Hp), vs = [.ref r, .int t] ∧ Ex H0 H ∧ H0 r = some (.lst (ps.map V.ref)) ∧ Evs H0 ps (es.map Evt.v) ∧ es.length ≤ 400 ∧
  ∀ (p : Addr) (qs : List Addr) (H' : Hp), Go (fun _ => False) H0 H H0 H' → H p = none → H' p = some (.lst (qs.map V.ref)) → Evs H0 qs ((es.filter fun e => decide (e.tick ≤ t)).map Evt.v) → Q (.ref p) H'
theorem ok_up_to {f : Addr} {fd : FuncData} (F : Fun K "_law_up_to" "_law_up_to" s_m_up_to f fd) : FnOk P w K mg base CX0 1 f fd ["_law_track", "_law_tick_here"] spUpToM := by
  refine F.ok sc_m_up_to (fun vs H Q E h => ?_) (fun cdv A outer s B vs Q E hr h => ?_)
  · obtain ⟨r, t, ps, es, H0, rfl, _⟩ := h
    rfl
  · obtain ⟨r, t, ps, es, H0, rfl, e0, hr0, hev, hl, q⟩ := h
    refine ⟨_, (pss_one (ps_ret (pe_lc (own := [("_law_event", 2)]) (g := gName 2)  rfl sc_m_up_to.nd (pi_list (pv 0)) (blkOk_by (N := ["_law_track", "_law_tick_here", "_law_event"]) (sc := defScope s_m_up_to) (by decide +kernel)) (fun _ _ _ _ _ => pg_name (i := 2) sc_m_up_to.nd rfl (Or.inl rfl)) (fun _ _ _ _ _ => pts_one (pt_cmpR op_le (pe_ix (r := rIxT K) ix_tup (pv 2) pe_int (fun _ _ => rfl)) (pv 1) (nomark _))) (fun _ _ _ _ _ => (pv 2))))), ?_⟩
    have g := Go.refl (m := fun _ => False) e0
    have lp : (ps.map V.ref).length = es.length := by rw [List.length_map, hev.len]
    refine ⟨_, rfl, r, rfl, ⟨_, SqL.of (e0 _ _ hr0)⟩, fun D hD => ?_⟩
    have BD := g.fresh hD
    have ZD := g.fresh0 hD
    refine lc_list (xs := ps.map V.ref) (fun j HH => ∃ qs : List Addr, HH D = some (.lst (qs.map V.ref)) ∧ Evs H0 qs (((es.take j).filter fun e => decide (e.tick ≤ t)).map Evt.v) ∧ Go (fun _ => False) H0 B H0 HH)
      ⟨[], upd_same, Evs.nil _, g.lay _ hD⟩ (fun j HH _ ⟨_, _, _, g⟩ => SqL.of (g.inn _ _ hr0)) ?_ ?_
    · rintro j x HH hx ⟨qs, h1, h2, g⟩
      obtain ⟨q1, e, rfl, hq, he, hqx⟩ := evs_at hev hx
      have hj := (List.getElem?_eq_some_iff.mp he).1
      have tk : (es.take (j + 1)).filter (fun e => decide (e.tick ≤ t)) = (es.take j).filter (fun e => decide (e.tick ≤ t)) ++ [e].filter fun e => decide (e.tick ≤ t) := by
        rw [take_snoc he, List.filter_append]
      refine ⟨rfl, ?_⟩
      refine ⟨_, rfl, q1, _, _, _, rfl, rfl, SqT.of (g.inn _ _ hqx), at_of (j := 0) rfl (v_tick e), _, rfl, _, _, rfl, rfl, _, rfl, ?_⟩
      by_cases c : e.tick ≤ t
      · refine ifT (decide_eq_true c) ?_
        have lq := h2.len
        have lf : ((es.take j).filter fun e => decide (e.tick ≤ t)).length ≤ j := Nat.le_trans (List.length_filter_le _ _) (by rw [List.length_take]; omega)
        refine ⟨_, rfl, _, h1, mem_lt (by rw [List.length_map]; omega), qs ++ [q1], ?_, ?_, g.turn _ BD ZD⟩
        · rw [upd_same, List.map_append]
          rfl
        · rw [tk, List.filter_cons_of_pos (p := fun e : Evt => decide (e.tick ≤ t)) (decide_eq_true c), List.filter_nil, List.map_append]
          exact h2.snoc hqx
      · refine ifF (decide_eq_false c) ?_
        refine ⟨qs, h1, ?_, g⟩
        rw [tk, List.filter_cons_of_neg (p := fun e : Evt => decide (e.tick ≤ t)) (by rw [decide_eq_false c]; exact Bool.false_ne_true), List.filter_nil, List.append_nil]
        exact h2
    · rintro HH ⟨qs, h1, h2, g⟩
      rw [lp, List.take_length] at h2
      exact q D qs HH g BD h1 h2
abbrev s_m_told_parts : Stmt := topS 32
theorem sc_m_told_parts : FnScope ["_law_stand"] ["_law_stand"] (defScope s_m_told_parts) := ⟨rfl, rfl, rfl, by decide +kernel, rfl, by decide +kernel, by decide +kernel⟩
def spToldParts (K : PySem.W.Frag) (C : Addr) : Sp := fun vs H Q _ => ∃ (o : Addr) (s : Sta) (H0 : Hp), vs = [.ref o] ∧ Ex H0 H ∧ StaAt C H0 o s ∧
  ∀ (p : Addr) (H' : Hp), Go (fun _ => False) H0 H H0 H' → Dp K H' (.ref p) (staD s) → Q (.ref p) H'
theorem ok_told_parts {f C : Addr} {fd : FuncData} (F : Fun K "_law_told_parts" "_law_told_parts" s_m_told_parts f fd) (M_Stand_sounds : C8.Met P w K mg base 1 C "sounds" (spTold C Sta.snd) []) (M_Stand_knobs : C8.Met P w K mg base 1 C "knobs" (spTold C Sta.knb) []) (M_Stand_voices : C8.Met P w K mg base 1 C "voices" (spTold C Sta.voi) []) : FnOk P w K mg base CX0 2 f fd ["_law_stand"] (spToldParts K C) := by
  refine F.ok sc_m_told_parts (fun vs H Q E h => ?_) (fun cdv A outer s B vs Q E hr h => ?_)
  · obtain ⟨o, st, H0, rfl, _⟩ := h
    rfl
  · obtain ⟨o, st, H0, rfl, e0, hS, q⟩ := h
    refine ⟨_, (pss_one (ps_ret (pe_lst (pa_cons (C8.pe_mt0 M_Stand_sounds hr (by decide) (pv 0)) (pa_cons (C8.pe_mt0 M_Stand_knobs hr (by decide) (pv 0)) (pa_cons (C8.pe_mt0 M_Stand_voices hr (by decide) (pv 0)) pa_nil)))))), ?_⟩
    have g := Go.refl (m := fun _ => False) e0
    obtain ⟨dx, l1, l2, l3, q1, q2, q3, hi, hl1, hl2, hl3, r1, r2, r3⟩ := id hS
    have nol : ∀ {f : Str}, ¬ f = fS → ¬ f = fK → ¬ f = fV → (flds (.ref l1) (.ref l2) (.ref l3)).lookup f = none := fun h1 h2 h3 => look_no _ _ _ h1 h2 h3
    refine ⟨_, rfl, o, dx, _, rfl, e0 _ _ hi, nol (by decide +kernel) (by decide +kernel) (by decide +kernel), o, st, H0, rfl, g.inn, hS, fun p1 qa H1 g1 n1 h1 R1 => ?_⟩
    have g := g.then g1
    refine ⟨_, rfl, o, dx, _, rfl, g.inn _ _ hi, nol (by decide +kernel) (by decide +kernel) (by decide +kernel), o, st, H0, rfl, g.inn, hS, fun p2 qb H2 g2 n2 h2 R2 => ?_⟩
    have g := g.then g2
    have h1 := g2.keep _ _ h1 (fun z => z)
    refine ⟨_, rfl, o, dx, _, rfl, g.inn _ _ hi, nol (by decide +kernel) (by decide +kernel) (by decide +kernel), o, st, H0, rfl, g.inn, hS, fun p3 qc H3 g3 n3 h3 R3 => ?_⟩
    have g := g.then g3
    have h1 := g3.keep _ _ h1 (fun z => z)
    have h2 := g3.keep _ _ h2 (fun z => z)
    refine ⟨(by show 3 ≤ sizeLine; decide), fun p hp => q p _ (g.lay _ hp) ?_⟩
    have xp := Ex.new (o := .lst [.ref p1, .ref p2, .ref p3]) hp
    have x0 := g.inn.trans xp
    exact .lst (SqL.of upd_same) (.cons (dp_rwsM (xp _ _ h1) (R1.up x0)) (.cons (dp_rwsM (xp _ _ h2) (R2.up x0)) (.cons (dp_rwsM (xp _ _ h3) (R3.up x0)) .nil)))
end
end Rt

namespace Rt
open PySem PySem.Spec PyProof.Rows L2 RZ TL LamX
section
variable {P : Program} {w : World} {K : PySem.W.Frag} {mg : Str → Option Value} {base : Heap}
abbrev s_sta_init : Stmt := inClass (topS 11) 0
theorem sc_sta_init : FnScope ["self"] ["self"] (defScope s_sta_init) := ⟨rfl, rfl, rfl, by decide +kernel, rfl, by decide +kernel, by decide +kernel⟩
theorem ok_sta_init {f C : Addr} {fd : FuncData} (F : Fun K "__init__" "Stand.__init__" s_sta_init f fd) (T : StandT K C) : FnOk P w K mg base CX0 1 f fd ["self"] (spNew C) := by
  refine F.ok sc_sta_init (fun vs H Q E h => ?_) (fun cdv A outer s B vs Q E hr h => ?_)
  · obtain ⟨x, dx, H0, rfl, _⟩ := h
    rfl
  · obtain ⟨x, dx, H0, rfl, e0, hx, zx, q⟩ := h
    refine ⟨_, (pss_cons (ps_fld (pv 0) (pe_lst pa_nil) rfl)
      (pss_cons (ps_fld (pv 0) (pe_lst pa_nil) rfl)
      (pss_one (ps_fld (pv 0) (pe_lst pa_nil) rfl)))), ?_⟩
    have g := Go.refl (m := (· = x)) e0
    refine ⟨(by show 0 ≤ sizeLine; decide), fun l1 n1 => ?_⟩
    have x1 := ne_of_none hx n1
    obtain ⟨H1, e1, g, hl1, y1, B1, _⟩ := g.ly (.lst []) n1
    have hx := y1 _ _ hx
    rw [e1]
    refine ⟨_, rfl, x, C, dx, _, rfl, hx, T.cl, T.ns, (by show 0 < 1000; decide), ?_⟩
    have g := g.turnM (.ins C dx (putF fS (.ref l1) [])) rfl zx
    have hl1 := (upd_ne (o := .ins C dx (putF fS (.ref l1) [])) x1.symm).trans hl1
    have hx : upd H1 x (.ins C dx (putF fS (.ref l1) [])) x = some (.ins C dx (putF fS (.ref l1) [])) := upd_same
    revert g hl1 hx
    generalize upd H1 x (.ins C dx (putF fS (.ref l1) [])) = H1
    intro g hl1 hx
    refine ⟨(by show 0 ≤ sizeLine; decide), fun l2 n2 => ?_⟩
    have x2 := ne_of_none hx n2
    have d12 := ne_of_none hl1 n2
    obtain ⟨H2, e2, g, hl2, y2, B2, _⟩ := g.ly (.lst []) n2
    have hx := y2 _ _ hx
    have hl1 := y2 _ _ hl1
    rw [e2]
    refine ⟨_, rfl, x, C, dx, _, rfl, hx, T.cl, T.nk, (by show 1 < 1000; decide), ?_⟩
    rw [flds1, flds2]
    have g := g.turnM (.ins C dx [(fS, .ref l1), (fK, .ref l2)]) rfl zx
    have hl1 := (upd_ne (o := .ins C dx [(fS, .ref l1), (fK, .ref l2)]) x1.symm).trans hl1
    have hl2 := (upd_ne (o := .ins C dx [(fS, .ref l1), (fK, .ref l2)]) x2.symm).trans hl2
    have hx : upd H2 x (.ins C dx [(fS, .ref l1), (fK, .ref l2)]) x = some (.ins C dx [(fS, .ref l1), (fK, .ref l2)]) := upd_same
    revert g hl1 hl2 hx
    generalize upd H2 x (.ins C dx [(fS, .ref l1), (fK, .ref l2)]) = H2
    intro g hl1 hl2 hx
    refine ⟨(by show 0 ≤ sizeLine; decide), fun l3 n3 => ?_⟩
    have x3 := ne_of_none hx n3
    have d13 := ne_of_none hl1 n3
    have d23 := ne_of_none hl2 n3
    obtain ⟨H3, e3, g, hl3, y3, B3, _⟩ := g.ly (.lst []) n3
    have hx := y3 _ _ hx
    have hl1 := y3 _ _ hl1
    have hl2 := y3 _ _ hl2
    rw [e3]
    refine ⟨_, rfl, x, C, dx, _, rfl, hx, T.cl, T.nv, (by show 2 < 1000; decide), ?_⟩
    rw [flds3]
    exact q l1 l2 l3 _ (g.turnM _ rfl zx) upd_same ((upd_ne x1.symm).trans hl1) ((upd_ne x2.symm).trans hl2) ((upd_ne x3.symm).trans hl3) B1 B2 B3 d12 d13 d23
abbrev s_sta_sounds : Stmt := inClass (topS 11) 2
theorem sc_sta_sounds : FnScope ["self"] ["self"] (defScope s_sta_sounds) := ⟨rfl, rfl, rfl, by decide +kernel, rfl, by decide +kernel, by decide +kernel⟩
theorem ok_sta_sounds {f C : Addr} {fd : FuncData} (F : Fun K "sounds" "Stand.sounds" s_sta_sounds f fd) (T : StandT K C) (m_list : mg "list" = none) : FnOk P w K mg base CX0 1 f fd ["self"] (spTold C Sta.snd) := by
  refine F.ok sc_sta_sounds (fun vs H Q E h => ?_) (fun cdv A outer s B vs Q E hr h => ?_)
  · obtain ⟨a, st, H0, rfl, _⟩ := h
    rfl
  · obtain ⟨a, st, H0, rfl, e0, hs, q⟩ := h
    refine ⟨_, (pss_one (ps_ret (pe_callTy call_list_of (by rfl) m_list bt_list (pa_cons (pe_fld (pv 0) rfl) pa_nil)))), ?_⟩
    obtain ⟨dx, l1, l2, l3, q1, q2, q3, h0, h1, h2, h3, r1, r2, r3⟩ := hs
    have g := Go.refl (m := fun _ => False) e0
    exact ⟨_, rfl, a, C, dx, _, _, rfl, e0 _ _ h0, T.cl, T.ns, look_s _ _ _, l1, _, rfl, .inl (SqL.of (e0 _ _ h1)), fun p hp => q p q1 _ (g.lay _ hp) hp upd_same r1⟩
abbrev s_sta_knobs : Stmt := inClass (topS 11) 3
theorem sc_sta_knobs : FnScope ["self"] ["self"] (defScope s_sta_knobs) := ⟨rfl, rfl, rfl, by decide +kernel, rfl, by decide +kernel, by decide +kernel⟩
theorem ok_sta_knobs {f C : Addr} {fd : FuncData} (F : Fun K "knobs" "Stand.knobs" s_sta_knobs f fd) (T : StandT K C) (m_list : mg "list" = none) : FnOk P w K mg base CX0 1 f fd ["self"] (spTold C Sta.knb) := by
  refine F.ok sc_sta_knobs (fun vs H Q E h => ?_) (fun cdv A outer s B vs Q E hr h => ?_)
  · obtain ⟨a, st, H0, rfl, _⟩ := h
    rfl
  · obtain ⟨a, st, H0, rfl, e0, hs, q⟩ := h
    refine ⟨_, (pss_one (ps_ret (pe_callTy call_list_of (by rfl) m_list bt_list (pa_cons (pe_fld (pv 0) rfl) pa_nil)))), ?_⟩
    obtain ⟨dx, l1, l2, l3, q1, q2, q3, h0, h1, h2, h3, r1, r2, r3⟩ := hs
    have g := Go.refl (m := fun _ => False) e0
    exact ⟨_, rfl, a, C, dx, _, _, rfl, e0 _ _ h0, T.cl, T.nk, look_k _ _ _, l2, _, rfl, .inl (SqL.of (e0 _ _ h2)), fun p hp => q p q2 _ (g.lay _ hp) hp upd_same r2⟩
abbrev s_sta_voices : Stmt := inClass (topS 11) 4
theorem sc_sta_voices : FnScope ["self"] ["self"] (defScope s_sta_voices) := ⟨rfl, rfl, rfl, by decide +kernel, rfl, by decide +kernel, by decide +kernel⟩
theorem ok_sta_voices {f C : Addr} {fd : FuncData} (F : Fun K "voices" "Stand.voices" s_sta_voices f fd) (T : StandT K C) (m_list : mg "list" = none) : FnOk P w K mg base CX0 1 f fd ["self"] (spTold C Sta.voi) := by
  refine F.ok sc_sta_voices (fun vs H Q E h => ?_) (fun cdv A outer s B vs Q E hr h => ?_)
  · obtain ⟨a, st, H0, rfl, _⟩ := h
    rfl
  · obtain ⟨a, st, H0, rfl, e0, hs, q⟩ := h
    refine ⟨_, (pss_one (ps_ret (pe_callTy call_list_of (by rfl) m_list bt_list (pa_cons (pe_fld (pv 0) rfl) pa_nil)))), ?_⟩
    obtain ⟨dx, l1, l2, l3, q1, q2, q3, h0, h1, h2, h3, r1, r2, r3⟩ := hs
    have g := Go.refl (m := fun _ => False) e0
    exact ⟨_, rfl, a, C, dx, _, _, rfl, e0 _ _ h0, T.cl, T.nv, look_v _ _ _, l3, _, rfl, .inl (SqL.of (e0 _ _ h3)), fun p hp => q p q3 _ (g.lay _ hp) hp upd_same r3⟩
end
end Rt

namespace Rt
open PySem PySem.Spec PyProof.Rows L2 RZ TL LamX
section
variable {P : Program} {w : World} {K : PySem.W.Frag} {mg : Str → Option Value} {base : Heap}
abbrev s_sounds_after : Stmt := topS 9
theorem sc_sounds_after : FnScope ["sounds", "thing", "place", "note"] ["sounds", "thing"] (defScope s_sounds_after) := ⟨rfl, rfl, rfl, by decide +kernel, rfl, by decide +kernel, by decide +kernel⟩
theorem ok_sounds_after {f : Addr} {fd : FuncData} (F : Fun K "sounds_after" "sounds_after" s_sounds_after f fd) (m_len : mg "len" = none) (m_enumerate : mg "enumerate" = none) : FnOk P w K mg base CX0 1 f fd ["sounds", "thing"] spSnd := by
  refine F.ok sc_sounds_after (fun vs H Q E h => ?_) (fun cdv A outer s B vs Q E hr h => ?_)
  · obtain ⟨l, t, qs, S, e, H0, rfl, _⟩ := h
    rfl
  · obtain ⟨l, t, qs, S, e, H0, rfl, e0, hl, hS, hB, ht, ln, q⟩ := h
    refine ⟨_, (pss_cons (ps_if (pt_cmpR op_eq (pe_ix ix_tup (pv 1) pe_int (fun _ _ => rfl)) pe_str (nomark _)) (pss_cons (ps_set (i := 2) sc_sounds_after.nd rfl (Or.inl rfl) (pe_callB call_len_seq (by rfl) m_len PySem.boot_len (pa_cons (pe_lc (own := [("note", 3)]) (g := gName 3)  rfl sc_sounds_after.nd (pi_list (pv 0)) (blkOk_by (N := ["sounds", "thing", "place", "note"]) (sc := defScope s_sounds_after) (by decide +kernel)) (fun _ _ _ _ _ => pg_name (i := 3) sc_sounds_after.nd rfl (Or.inl rfl)) (fun _ _ _ _ _ => pts_one (pt_cmpR (r := rLeT K) (op_leT (Nat.lt_of_succ_lt (hu_of hr))) (pe_slice (r := rSlT K) sl_tup (pv 3) po_none (po_some pe_int)) (pe_slice (r := rSlT K) sl_tup (pv 1) (po_some pe_int) (po_some pe_int)) (nomark _))) (fun _ _ _ _ _ => (pv 3))) pa_nil)))
      (pss_one (ps_ret (pe_op op_cat (pe_op op_cat (pe_slice sl_list (pv 0) po_none (po_some (pv 2))) (pe_lst (pa_cons (pe_slice sl_tup (pv 1) (po_some pe_int) po_none) pa_nil))) (pe_slice sl_list (pv 0) (po_some (pv 2)) po_none))))) pss_nil)
      (pss_cons (ps_if (pt_cmpR op_eq (pe_ix ix_tup (pv 1) pe_int (fun _ _ => rfl)) pe_str (nomark _)) (pss_one (ps_for PassesOwn.never rfl (pi_enum (by rfl) m_enumerate (pa_cons (pv 0) pa_nil)) (pg_tup rfl (pgs_cons (pg_name (i := 2) sc_sounds_after.nd rfl (Or.inl rfl)) (pgs_cons (pg_name (i := 3) sc_sounds_after.nd rfl (Or.inl rfl)) pgs_nil))) (pss_one (ps_if (pt_cmpR (op_eqD hr.units) (pe_slice sl_tup (pv 3) po_none (po_some pe_int)) (pe_slice sl_tup (pv 1) (po_some pe_int) (po_some pe_int)) (nomark _)) (pss_one (ps_ret (pe_op op_cat (pe_slice sl_list (pv 0) po_none (po_some (pv 2))) (pe_slice sl_list (pv 0) (po_some (pe_op op_add (pv 2) pe_int)) po_none)))) pss_nil)))) pss_nil)
      (pss_one (ps_ret (pv 0))))), ?_⟩
    have g := Go.refl (m := fun _ => False) e0
    have lq := hS.len
    -- if thing[0] == "on"
    refine ⟨_, rfl, t, e.th, _, e.th.getD 0 .non, rfl, rfl, SqT.of (e0 _ _ ht), by cases e <;> rfl, by cases e <;> rfl, _, rfl, ?_⟩
    by_cases eon : ∃ t0 c k f', e = .key true t0 c k f'
    · obtain ⟨t0, c, k, f', rfl⟩ := eon
      refine ifT (decide_eq_true rfl) ?_
      -- place = len([..])
      refine ⟨_, rfl, l, rfl, ⟨_, SqL.of (e0 _ _ hl)⟩, fun D hD => ?_⟩
      have BD := g.fresh hD
      have ZD := g.fresh0 hD
      refine lc_list (xs := qs.map V.ref) (fun j H' => ∃ xs : List V, H' D = some (.lst xs) ∧ xs.length = ((S.take j).filter fun x => leCK (rck x) (c, k)).length ∧ Go (fun _ => False) H0 B H0 H')
        ⟨[], upd_same, rfl, g.lay _ hD⟩ (fun j H' _ ⟨_, _, _, g⟩ => SqL.of (g.inn _ _ hl)) ?_ ?_
      · rintro j x H' hx ⟨xs, h1, h2, g⟩
        rw [List.getElem?_map] at hx
        obtain ⟨y, hy, rfl⟩ := Option.map_eq_some_iff.mp hx
        obtain ⟨r, hr', hyr⟩ := pairedAt hS hy
        obtain ⟨br, -⟩ := hB r (List.mem_of_getElem? hr')
        obtain ⟨a1, a2, a3, rfl⟩ : ∃ a b c, r = [a, b, c] := by
          match r, br with
          | [a, b, c], _ => exact ⟨a, b, c, rfl⟩
        have lx : xs.length ≤ 1000 := by
          rw [h2]
          refine Nat.le_trans (List.length_filter_le _ _) ?_
          rw [List.length_take]
          omega
        refine ⟨rfl, ?_⟩
        refine ⟨_, rfl, _, rfl, y, _, rfl, SqT.of (g.inn _ _ hyr), fun z => absurd z.2 (by decide : ¬ ((2 : Nat) = 3)), fun u hu => ?_⟩
        have nDu := ne_of_none h1 hu
        obtain ⟨H2, e2, g, hu1, x2, _, _⟩ := g.ly (.tup (cutV (List.map V.int [a1, a2, a3]) none (some 2))) hu
        have h1 := x2 _ _ h1
        rw [e2]
        refine ⟨_, rfl, _, rfl, _, rfl, t, _, rfl, SqT.of (g.inn _ _ ht), fun z => absurd z.1 (by decide : ¬ ((1 : Nat) = 0)), fun v hv => ?_⟩
        obtain ⟨H3, e3, g, hv1, x3, _, _⟩ := g.ly (.tup (cutV (Evt.key true t0 c k f').th (some 1) (some 3))) hv
        have h1 := x3 _ _ h1
        have hu1 := x3 _ _ hu1
        rw [e3]
        refine ⟨u, v, [a1, a2], [c, k], rfl, rfl, SqT.of hu1, SqT.of hv1, ?_⟩
        rw [le_pair]
        refine ⟨_, rfl, ?_⟩
        have tk : S.take (j + 1) = S.take j ++ [[a1, a2, a3]] := take_snoc hr'
        by_cases c1 : leCK (a1, a2) (c, k) = true
        · refine ifT c1 ?_
          refine ⟨_, rfl, _, h1, mem_lt (by omega), xs ++ [V.ref y], upd_same, ?_, g.turn _ BD ZD⟩
          rw [tk, List.filter_append, List.length_append, List.length_append, h2, List.filter_cons_of_pos (p := fun x => leCK (rck x) (c, k)) (a := [a1, a2, a3]) c1]
          rfl
        · refine ifF (Bool.eq_false_iff.mpr c1) ?_
          refine ⟨xs, h1, ?_, g⟩
          rw [tk, List.filter_append, h2, List.filter_cons_of_neg (p := fun x => leCK (rck x) (c, k)) (a := [a1, a2, a3]) c1]
          simp
      · rintro H' ⟨xs, h1, h2, g⟩
        rw [List.length_map, lq, List.take_length] at h2
        refine ⟨D, xs, rfl, .inl (SqL.of h1), ?_⟩
        rw [h2]
        have nl : (S.filter fun x => leCK (rck x) (c, k)).length ≤ S.length := List.length_filter_le _ _
        have si : sndA S (.key true t0 c k f') = S.take (S.filter fun x => leCK (rck x) (c, k)).length ++ [[c, k, f']] ++ S.drop (S.filter fun x => leCK (rck x) (c, k)).length := rfl
        revert nl si
        generalize (S.filter fun x => leCK (rck x) (c, k)).length = n
        intro nl si
        have lqn : n ≤ (qs.map V.ref).length := by rw [List.length_map, lq]; exact nl
        have hlS : ∀ {H2 : Hp}, Go (fun _ => False) H0 B H0 H2 → SqL K H2 l (qs.map V.ref) := fun g => SqL.of (g.inn _ _ hl)
        refine ⟨_, rfl, _, rfl, _, rfl, l, _, rfl, hlS g, fun p1 n1 => ?_⟩
        rw [cutV_take _ n lqn]
        obtain ⟨H1, e1, g, hp1, x1, _, _⟩ := g.ly (.lst ((qs.map V.ref).take n)) n1
        rw [e1]
        refine ⟨_, rfl, _, rfl, t, _, rfl, SqT.of (g.inn _ _ ht), fun z => absurd z.1 (by decide : ¬ ((1 : Nat) = 0)), fun t1 n2 => ?_⟩
        rw [show cutV (Evt.key true t0 c k f').th (some 1) none = [.int c, .int k, .int f'] from rfl]
        obtain ⟨G1, H2, e2, g, ht1, xG⟩ := g.nw (.tup [.int c, .int k, .int f']) n2
        have hp1 : H2 p1 = some (.lst ((qs.map V.ref).take n)) := by rw [← e2, upd_ne (ne_of_none hp1 n2)]; exact hp1
        rw [e2]
        refine ⟨(by show 1 ≤ sizeLine; decide), fun p2 n3 => ?_⟩
        obtain ⟨H3, e3, g, hp2, x3, _, _⟩ := g.ly (.lst [.ref t1]) n3
        have hp1 := x3 _ _ hp1
        rw [e3]
        refine ⟨p1, p2, _, _, rfl, rfl, hp1, hp2, mem_sz (by rw [List.length_take, List.length_map]; show min n qs.length + 1 ≤ _; omega), fun p3 n4 => ?_⟩
        obtain ⟨H4, e4, g, hp3, x4, _, _⟩ := g.ly (.lst ((qs.map V.ref).take n ++ [.ref t1])) n4
        rw [e4]
        refine ⟨_, rfl, _, rfl, _, rfl, l, _, rfl, SqL.of (g.inn _ _ (xG _ _ hl)), fun p4 n5 => ?_⟩
        rw [cutV_drop _ n lqn]
        obtain ⟨H5, e5, g, hp4, x5, _, _⟩ := g.ly (.lst ((qs.map V.ref).drop n)) n5
        have hp3 := x5 _ _ hp3
        rw [e5]
        refine ⟨p3, p4, _, _, rfl, rfl, hp3, hp4, mem_sz (by rw [List.length_append, List.length_take, List.length_drop, List.length_map]; show min n qs.length + 1 + _ ≤ _; omega), fun p5 n6 => ?_⟩
        obtain ⟨G2, H6, e6, g, hp5, xG2⟩ := g.nw (.lst ((qs.map V.ref).take n ++ [.ref t1] ++ (qs.map V.ref).drop n)) n6
        rw [e6]
        refine q p5 (qs.take n ++ [t1] ++ qs.drop n) G2 H6 g ?_ ?_
        · rw [hp5, List.map_append, List.map_append, List.map_take, List.map_drop]
          rfl
        · rw [si]
          have hS2 : Rws G2 qs S := hS.up (xG.trans xG2)
          exact pairedApp (pairedApp (pairedTake n hS2) (.cons (xG2 _ _ ht1) .nil)) (pairedDrop n hS2)
    · refine ifF ?_ ?_
      · cases e with
        | key b t0 c k f' =>
          cases b with
          | true => exact absurd ⟨_, _, _, _, rfl⟩ eon
          | false => show decide (V.str (onW false) = V.str "on") = false; decide +kernel
        | knob => show decide (V.str "knob" = V.str "on") = false; decide +kernel
        | voice => show decide (V.str "voice" = V.str "on") = false; decide +kernel
        | mark => show decide (V.str "mark" = V.str "on") = false; decide +kernel
      · refine ⟨_, rfl, t, e.th, _, e.th.getD 0 .non, rfl, rfl, SqT.of (e0 _ _ ht), by cases e <;> rfl, by cases e <;> rfl, _, rfl, ?_⟩
        by_cases eof : ∃ t0 c k f', e = .key false t0 c k f'
        · obtain ⟨t0, c, k, f', rfl⟩ := eof
          refine ifT (decide_eq_true rfl) ?_
          have hlS : ∀ {H2 : Hp}, Go (fun _ => False) H0 B H0 H2 → SqL K H2 l (qs.map V.ref) := fun g => SqL.of (g.inn _ _ hl)
          have lqr : (qs.map V.ref).length = S.length := by rw [List.length_map, lq]
          refine ⟨_, rfl, l, _, rfl, hlS g, for_enum (xs := qs.map V.ref) (fun i σ H' => ∃ v2 v3 : Option V, σ = [some (.ref l), some (.ref t), v2, v3] ∧ Go (fun _ => False) H0 B H0 H' ∧ ∀ y ∈ S.take i, decide (rck y = (c, k)) = false)
            ⟨none, none, rfl, g, fun y h => (nomatch h)⟩ (fun i σ H' ⟨_, _, _, g, _⟩ => hlS g) ?_ ?_⟩
          · rintro i x T σ H' hx ⟨v2, v3, rfl, g, hno⟩ hT
            rw [List.getElem?_map] at hx
            obtain ⟨y, hy, rfl⟩ := Option.map_eq_some_iff.mp hx
            obtain ⟨r, hr', hyr⟩ := pairedAt hS hy
            obtain ⟨br, -⟩ := hB r (List.mem_of_getElem? hr')
            obtain ⟨a1, a2, a3, rfl⟩ : ∃ a b c, r = [a, b, c] := by
              match r, br with
              | [a, b, c], _ => exact ⟨a, b, c, rfl⟩
            have hil := (List.getElem?_eq_some_iff.mp hr').1
            obtain ⟨H1, e1, g, hTT, x1, _, _⟩ := g.ly (.tup [.int (i : Nat), .ref y]) hT
            rw [e1]
            refine ⟨T, _, rfl, SqT.of hTT, rfl, _, _, rfl, _, _, rfl, rfl, ?_⟩
            refine ⟨_, rfl, _, rfl, y, _, rfl, SqT.of (g.inn _ _ hyr), fun z => absurd z.2 (by decide : ¬ ((2 : Nat) = 3)), fun u hu => ?_⟩
            rw [show cutV (List.map V.int [a1, a2, a3]) none (some 2) = [.int a1, .int a2] from rfl]
            obtain ⟨H2, e2, g, hu1, x2, _, _⟩ := g.ly (.tup [.int a1, .int a2]) hu
            rw [e2]
            refine ⟨_, rfl, _, rfl, _, rfl, t, _, rfl, SqT.of (g.inn _ _ ht), fun z => absurd z.1 (by decide : ¬ ((1 : Nat) = 0)), fun v hv => ?_⟩
            rw [show cutV (Evt.key false t0 c k f').th (some 1) (some 3) = [.int c, .int k] from rfl]
            obtain ⟨H3, e3, g, hv1, x3, _, _⟩ := g.ly (.tup [.int c, .int k]) hv
            have hu1 := x3 _ _ hu1
            rw [e3]
            refine ⟨.tuple [.int a1, .int a2], .tuple [.int c, .int k], .tup (SqT.of hu1) (.cons (.int _) (.cons (.int _) .nil)), .tup (SqT.of hv1) (.cons (.int _) (.cons (.int _) .nil)), rfl, rfl, ?_⟩
            rw [ck_eq]
            refine ⟨_, rfl, ?_⟩
            by_cases c1 : (a1, a2) = (c, k)
            · refine ifT (decide_eq_true c1) ?_
              have lqi : i ≤ (qs.map V.ref).length := by omega
              have lqi1 : i + 1 ≤ (qs.map V.ref).length := by omega
              have dl := delF_at (p := fun x => decide (rck x = (c, k))) hr' (decide_eq_true c1) hno
              refine ⟨_, rfl, _, rfl, _, rfl, l, _, rfl, hlS g, fun p1 n1 => ?_⟩
              rw [cutV_take _ i lqi]
              obtain ⟨H4, e4, g, hp1, x4, _, _⟩ := g.ly (.lst ((qs.map V.ref).take i)) n1
              rw [e4]
              refine ⟨_, rfl, _, rfl, _, _, rfl, rfl, _, rfl, l, _, rfl, hlS g, fun p2 n2 => ?_⟩
              rw [show (((i : Nat) : Int) + 1) = ((i + 1 : Nat) : Int) from rfl, cutV_drop _ (i + 1) lqi1]
              obtain ⟨H5, e5, g, hp2, x5, _, _⟩ := g.ly (.lst ((qs.map V.ref).drop (i + 1))) n2
              have hp1 := x5 _ _ hp1
              rw [e5]
              refine ⟨p1, p2, _, _, rfl, rfl, hp1, hp2, mem_sz (by rw [List.length_take, List.length_drop, lqr]; omega), fun p3 n3 => ?_⟩
              obtain ⟨G2, H6, e6, g, hp3, xG⟩ := g.nw (.lst ((qs.map V.ref).take i ++ (qs.map V.ref).drop (i + 1))) n3
              rw [e6]
              refine q p3 (qs.take i ++ qs.drop (i + 1)) G2 H6 g ?_ ?_
              · rw [hp3, List.map_append, List.map_take, List.map_drop]
              · show Rws G2 _ (delF _ S)
                rw [dl]
                exact pairedApp (pairedTake i (hS.up xG)) (pairedDrop (i + 1) (hS.up xG))
            · refine ifF (decide_eq_false c1) ?_
              refine ⟨_, _, rfl, g, fun z hz => ?_⟩
              rw [take_snoc hr'] at hz
              rcases List.mem_append.mp hz with h | h
              · exact hno z h
              · rw [List.mem_singleton.mp h]
                exact decide_eq_false c1
          · rintro σ H' ⟨v2, v3, rfl, g, hno⟩
            rw [lqr, List.take_length] at hno
            refine ⟨_, rfl, q l qs H0 H' g hl ?_⟩
            show Rws H0 qs (delF _ S)
            rw [delF_none hno]
            exact hS
        · refine ifF ?_ ?_
          · cases e with
            | key b t0 c k f' =>
              cases b with
              | true => exact absurd ⟨_, _, _, _, rfl⟩ eon
              | false => exact absurd ⟨_, _, _, _, rfl⟩ eof
            | knob => show decide (V.str "knob" = V.str "off") = false; decide +kernel
            | voice => show decide (V.str "voice" = V.str "off") = false; decide +kernel
            | mark => show decide (V.str "mark" = V.str "off") = false; decide +kernel
          · refine ⟨_, rfl, q l qs H0 B g hl ?_⟩
            have : sndA S e = S := by
              cases e with
              | key b t0 c k f' =>
                cases b with
                | true => exact absurd ⟨_, _, _, _, rfl⟩ eon
                | false => exact absurd ⟨_, _, _, _, rfl⟩ eof
              | knob => rfl
              | voice => rfl
              | mark => rfl
            rw [this]
            exact hS
end
end Rt

namespace Rt
open PySem PySem.Spec PyProof.Rows L2 RZ TL LamX
section
variable {P : Program} {w : World} {K : PySem.W.Frag} {mg : Str → Option Value} {base : Heap}
abbrev s_set_after : Stmt := topS 10
theorem sc_set_after : FnScope ["rows", "thing", "kept", "row"] ["rows", "thing"] (defScope s_set_after) := ⟨rfl, rfl, rfl, by decide +kernel, rfl, by decide +kernel, by decide +kernel⟩
theorem ok_set_after {f : Addr} {fd : FuncData} {d : Nat} {ok : Evt → Prop} (hd : 1 ≤ d) (F : Fun K "set_after" "set_after" s_set_after f fd) (m_sorted : mg "sorted" = none) : FnOk P w K mg base CX0 1 f fd ["rows", "thing"] (spSet d ok) := by
  refine F.ok sc_set_after (fun vs H Q E h => ?_) (fun cdv A outer s B vs Q E hr h => ?_)
  · obtain ⟨l, t, qs, S, e, H0, rfl, _⟩ := h
    rfl
  · obtain ⟨l, t, qs, S, e, H0, rfl, e0, hl, hS, hB, ht, hok, eok, er, ln, q⟩ := h
    refine ⟨_, (pss_cons (ps_setLc (i := 2) (own := [("row", 3)]) (g := gName 3)  rfl sc_set_after.nd rfl rfl (sw_true rfl rfl rfl (by decide +kernel)) (pi_list (pv 0)) (blkOk_by (N := ["rows", "thing", "kept", "row"]) (sc := defScope s_set_after) (by decide +kernel)) (fun _ _ _ _ _ => pg_name (i := 3) sc_set_after.nd rfl (Or.inl rfl)) (fun _ _ _ _ _ => pts_one (pt_cmpR (r := rNeD K) (op_neD hr.units) (pe_slice (r := rSlT K) sl_tup (pv 3) po_none (po_some (pe_un un_neg pe_int))) (pe_slice (r := rSlT K) sl_tup (pv 1) (po_some pe_int) (po_some (pe_un un_neg pe_int))) (nomark _))) (fun _ _ _ _ _ => (pv 3)))
      (pss_cons (ps_if (pt_cmpR op_eq (pe_ix ix_tup (pv 1) (pe_un un_neg pe_int) (fun _ _ => rfl)) pe_int (nomark _)) (pss_one (ps_ret (pv 2))) pss_nil)
      (pss_one (ps_ret (pe_callB (cr_sortT (d := d) (B := 128) hd) (by rfl) m_sorted bt_sorted (pa_cons (pe_op op_cat (pv 2) (pe_lst (pa_cons (pe_slice sl_tup (pv 1) (po_some pe_int) po_none) pa_nil))) pa_nil)))))), ?_⟩
    have g := Go.refl (m := fun _ => False) e0
    have lq := hS.len
    -- kept
    refine ⟨_, rfl, l, rfl, ⟨_, SqL.of (e0 _ _ hl)⟩, fun D hD => ?_⟩
    have BD := g.fresh hD
    have ZD := g.fresh0 hD
    have th1 : cutV e.th (some 1) (some (-1)) = e.row.dropLast.map V.int := by
      cases e with
      | key b t0 c k f' => rfl
      | knob t0 c k v => rfl
      | voice t0 c v => rfl
      | mark t0 x => have h : ([] : List Int).length = d := er; simp at h; omega
    refine lc_list (xs := qs.map V.ref) (fun j H' => ∃ ks : List Addr, H' D = some (.lst (ks.map V.ref)) ∧ Rws H0 ks ((S.take j).filter fun x => decide (x.dropLast ≠ e.row.dropLast)) ∧ Go (fun _ => False) H0 B H0 H')
      ⟨[], upd_same, .nil, g.lay _ hD⟩ (fun j H' _ ⟨_, _, _, g⟩ => SqL.of (g.inn _ _ hl)) ?_ ?_
    · rintro j x H' hx ⟨ks, h1, h2, g⟩
      rw [List.getElem?_map] at hx
      obtain ⟨y, hy, rfl⟩ := Option.map_eq_some_iff.mp hx
      obtain ⟨r, hr', hyr⟩ := pairedAt hS hy
      obtain ⟨br, -⟩ := hB r (List.mem_of_getElem? hr')
      have lk : ks.length ≤ 62 := by
        rw [h2.len]
        refine Nat.le_trans (List.length_filter_le _ _) ?_
        rw [List.length_take]
        omega
      refine ⟨rfl, ?_⟩
      refine ⟨_, rfl, _, rfl, _, rfl, y, _, rfl, SqT.of (g.inn _ _ hyr), fun z => ?_, fun u hu => ?_⟩
      · have := z.2
        rw [sIx_neg1, List.length_map] at this
        omega
      rw [cut_last]
      obtain ⟨H2, e2, g, hu1, x2, _, _⟩ := g.ly (.tup (r.dropLast.map V.int)) hu
      have h1 := x2 _ _ h1
      rw [e2]
      refine ⟨_, rfl, _, rfl, _, rfl, _, rfl, t, _, rfl, SqT.of (g.inn _ _ ht), fun z => ?_, fun v hv => ?_⟩
      · have := z.1
        rw [sI_one _ _ (by cases e <;> show 0 < _ + 1 <;> omega)] at this
        omega
      rw [th1]
      obtain ⟨H3, e3, g, hv1, x3, _, _⟩ := g.ly (.tup (e.row.dropLast.map V.int)) hv
      have h1 := x3 _ _ h1
      have hu1 := x3 _ _ hu1
      rw [e3]
      refine ⟨_, _, dp_tupI (SqT.of hu1), dp_tupI (SqT.of hv1), shaped_tup _, shaped_tup _, ?_⟩
      rw [eqv_tup]
      refine ⟨_, rfl, ?_⟩
      have tk : S.take (j + 1) = S.take j ++ [r] := take_snoc hr'
      by_cases c1 : r.dropLast = e.row.dropLast
      · refine ifF (by rw [decide_eq_true c1]; rfl) ?_
        refine ⟨ks, h1, ?_, g⟩
        rw [tk, List.filter_append, List.filter_cons_of_neg (p := fun x : List Int => decide (x.dropLast ≠ e.row.dropLast)) (a := r) (by rw [decide_eq_false (fun z => z c1)]; exact Bool.false_ne_true)]
        rw [List.filter_nil, List.append_nil]
        exact h2
      · refine ifT (by rw [decide_eq_false c1]; rfl) ?_
        refine ⟨_, rfl, _, h1, mem_lt (by rw [List.length_map]; omega), ks ++ [y], ?_, ?_, g.turn _ BD ZD⟩
        · rw [upd_same, List.map_append]
          rfl
        · rw [tk, List.filter_append, List.filter_cons_of_pos (p := fun x : List Int => decide (x.dropLast ≠ e.row.dropLast)) (a := r) (decide_eq_true c1)]
          exact pairedApp h2 (.cons hyr .nil)
    · rintro H' ⟨ks, h1, h2, g⟩
      rw [List.length_map, lq, List.take_length] at h2
      -- the value
      obtain ⟨jl, hj1, hj2⟩ := last_row (e := e) (by omega)
      have lk : ks.length ≤ 62 := by
        rw [h2.len]
        exact Nat.le_trans (List.length_filter_le _ _) ln
      refine ⟨_, rfl, _, rfl, t, e.th, _, _, rfl, rfl, SqT.of (g.inn _ _ ht), at_last (j := jl) rfl hj1 hj2, rfl, _, rfl, ?_⟩
      have kB : RowsB d (S.filter fun x => decide (x.dropLast ≠ e.row.dropLast)) := hB.filter _
      by_cases z0 : e.row.getLastD 0 = 0
      · refine ifT (decide_eq_true (by rw [z0])) ?_
        have x := Ex.new (o := .lst (ks.map V.ref)) ZD
        refine ⟨_, rfl, q D ks _ H' (g.set BD h1 ZD) upd_same ?_⟩
        unfold setA
        dsimp only
        rw [if_pos z0]
        exact h2.up x
      · refine ifF (decide_eq_false fun y => z0 (V.int.inj y)) ?_
        refine ⟨_, rfl, _, rfl, _, rfl, t, _, rfl, SqT.of (g.inn _ _ ht), fun z => ?_, fun t1 n1 => ?_⟩
        · have := z.1
          rw [sI_one _ _ (by omega)] at this
          omega
        rw [th_row (by omega)]
        obtain ⟨G1, H1, e1, g, ht1, xG⟩ := g.nw (.tup (e.row.map V.int)) n1
        have h1 : H1 D = some (.lst (ks.map V.ref)) := by rw [← e1, upd_ne (ne_of_none h1 n1)]; exact h1
        rw [e1]
        refine ⟨(by show 1 ≤ sizeLine; decide), fun p2 n2 => ?_⟩
        obtain ⟨H2, e2, g, hp2, x2, _, _⟩ := g.ly (.lst [.ref t1]) n2
        have h1 := x2 _ _ h1
        rw [e2]
        refine ⟨D, p2, _, _, rfl, rfl, h1, hp2, mem_sz (by rw [List.length_map]; show _ + 1 ≤ _; omega), fun p3 n3 => ?_⟩
        obtain ⟨H3, e3, g, hp3, x3, _, _⟩ := g.ly (.lst (ks.map V.ref ++ [.ref t1])) n3
        rw [e3]
        have R : Rws G1 (ks ++ [t1]) ((S.filter fun x => decide (x.dropLast ≠ e.row.dropLast)) ++ [e.row]) := pairedApp (h2.up xG) (.cons ht1 .nil)
        have RB : RowsB d ((S.filter fun x => decide (x.dropLast ≠ e.row.dropLast)) ++ [e.row]) := kB.app (.one er eok.row)
        have exs : ks.map V.ref ++ [V.ref t1] = (ks ++ [t1]).map V.ref := by rw [List.map_append]; rfl
        rw [exs] at hp3
        refine ⟨p3, _, rfl, SqL.of hp3, by rw [List.length_map, List.length_append]; show _ + 1 < 64; omega, fun x hx => ?_, fun ys p4 hperm hsort n4 => ?_⟩
        · obtain ⟨q', ns, rfl, hq, hm⟩ := rws_mem R x hx
          exact ⟨ns, ⟨q', rfl, SqT.of (g.inn _ _ hq)⟩, (RB ns hm).1, (RB ns hm).2⟩
        · obtain ⟨ks', rfl, R'⟩ := sorted_rows R RB g.inn hperm hsort
          obtain ⟨G2, H4, e4, g, hp4, xG2⟩ := g.nw (.lst (ks'.map V.ref)) n4
          rw [e4]
          refine q p4 ks' G2 H4 g hp4 ?_
          unfold setA
          dsimp only
          rw [if_neg z0]
          exact R'.up xG2
end
end Rt

namespace Rt
open PySem PySem.Spec PyProof.Rows L2 RZ TL LamX
section
variable {P : Program} {w : World} {K : PySem.W.Frag} {mg : Str → Option Value} {base : Heap}
abbrev s_sta_after : Stmt := inClass (topS 11) 1
theorem sc_sta_after : FnScope ["self", "thing", "told"] ["self", "thing"] (defScope s_sta_after) := ⟨rfl, rfl, rfl, by decide +kernel, rfl, by decide +kernel, by decide +kernel⟩
theorem ok_sta_after {f C : Addr} {fd : FuncData} (F : Fun K "after" "Stand.after" s_sta_after f fd) (T : StandT K C) (MK_Stand : C8.Mak P w K mg base 1 "Stand" C (spNew C) []) (D_sounds_after : Def P w K mg base "sounds_after" 1 spSnd)
    (D_set_k : Def P w K mg base "set_after" 1 (spSet 3 fun e => ∃ t c k v, e = .knob t c k v)) (D_set_v : Def P w K mg base "set_after" 1 (spSet 2 fun e => ∃ t c v, e = .voice t c v)) : FnOk P w K mg base CX0 3 f fd ["self", "thing"] (spAfter C) := by
  refine F.ok sc_sta_after (fun vs H Q E h => ?_) (fun cdv A outer s B vs Q E hr h => ?_)
  · obtain ⟨a, t, st, n, e, H0, rfl, _⟩ := h
    rfl
  · obtain ⟨a, t, st, n, e, H0, rfl, e0, hs, hk, hn, ht, eok, q⟩ := h
    refine ⟨_, (pss_cons (ps_set (i := 2) sc_sta_after.nd rfl (Or.inl rfl) (pe_new0 MK_Stand hr (by decide) rfl))
      (pss_cons (ps_fld (pv 2) (pe_d D_sounds_after (hr.mono (by decide)) rfl (pa_cons (pe_fld (pv 0) rfl) (pa_cons (pv 1) pa_nil))) rfl)
      (pss_cons (ps_fld (pv 2) (pe_ifExp (pt_cmpR op_eq (pe_ix ix_tup (pv 1) pe_int (fun _ _ => rfl)) pe_str (nomark _)) (pe_d D_set_k (hr.mono (by decide)) rfl (pa_cons (pe_fld (pv 0) rfl) (pa_cons (pv 1) pa_nil))) (pe_fld (pv 0) rfl)) rfl)
      (pss_cons (ps_fld (pv 2) (pe_ifExp (pt_cmpR op_eq (pe_ix ix_tup (pv 1) pe_int (fun _ _ => rfl)) pe_str (nomark _)) (pe_d D_set_v (hr.mono (by decide)) rfl (pa_cons (pe_fld (pv 0) rfl) (pa_cons (pv 1) pa_nil))) (pe_fld (pv 0) rfl)) rfl)
      (pss_one (ps_ret (pv 2))))))), ?_⟩
    have g := Go.refl (m := fun _ => False) e0
    obtain ⟨dx0, l1, l2, l3, q1, q2, q3, h0, h1, h2, h3, r1, r2, r3⟩ := hs
    -- told = Stand()
    intro x dx nx ndx nex
    have Bx := g.fresh nx
    have g := (g.lay (.own x) ndx).lay (.ins C dx []) (by rw [upd_ne nex.symm]; exact nx)
    have Zx : H0 x = none := e0.free nx
    refine ⟨x, dx, H0, rfl, g.inn, upd_same, Zx, fun m1 m2 m3 H1 g1 hx1 hm1 hm2 hm3 n1 n2 n3 d12 d13 d23 => ⟨rfl, ?_⟩⟩
    have g : Go (fun _ => False) H0 B H0 H1 := g.trans g1 fun y hy z => by
      rw [z] at hy
      exact absurd Bx hy
    -- told._sounds
    refine ⟨_, rfl, a, C, dx0, _, _, rfl, g.inn _ _ h0, T.cl, T.ns, look_s _ _ _, _, rfl, l1, t, q1, st.snd, e, H0, rfl, g.inn, h1, r1, hk.b1, ht, by have := hk.l1; omega, fun p1 k1 G1 H2 g2 hp1 R1 => ?_⟩
    have zx1 := g2.new x (by rw [hx1]; simp) Zx
    have hx2 := g2.keep _ _ hx1 (fun z => z)
    have g := g.then g2
    refine ⟨_, rfl, x, C, dx, _, rfl, hx2, T.cl, T.ns, (by show 3 < 1000; decide), ?_⟩
    rw [put_s]
    have g := g.turn (.ins C dx (flds (.ref p1) (.ref m2) (.ref m3))) Bx zx1
    have hx2 : upd H2 x (.ins C dx (flds (.ref p1) (.ref m2) (.ref m3))) x = some (.ins C dx (flds (.ref p1) (.ref m2) (.ref m3))) := upd_same
    revert g hx2
    generalize upd H2 x (.ins C dx (flds (.ref p1) (.ref m2) (.ref m3))) = H2
    intro g hx2
    clear g1 g2 hx1 hm1 hm2 hm3
    have h0 := g.up _ _ h0
    have h2 := g.up _ _ h2
    have h3 := g.up _ _ h3
    have ht := g.up _ _ ht
    have r2 := r2.up g.up
    have r3 := r3.up g.up
    -- told._knobs
    refine ⟨_, rfl, t, e.th, _, e.th.getD 0 .non, rfl, rfl, SqT.of (g.inn _ _ ht), by cases e <;> rfl, by cases e <;> rfl, _, rfl, ?_⟩
    by_cases ek : ∃ t0 c k v, e = .knob t0 c k v
    -- a knob
    refine ifT (by obtain ⟨_, _, _, _, rfl⟩ := ek; exact decide_eq_true rfl) ?_
    refine ⟨_, rfl, a, C, dx0, _, _, rfl, g.inn _ _ h0, T.cl, T.nk, look_k _ _ _, _, rfl, l2, t, q2, st.knb, e, G1, rfl, g.inn, h2, r2, hk.b2, ht, ek, eok, (by obtain ⟨_, _, _, _, rfl⟩ := ek; rfl), by have := hk.l2; omega, fun p2 k2 G2 H3 g2 hp2 R2 => ?_⟩
    have zx2 := g2.new x (by rw [hx2]; simp) zx1
    have hx3 := g2.keep _ _ hx2 (fun z => z)
    have g := g.then g2
    have xG := g2.up
    have R2 : Rws G2 k2 (st.after e).knb := by obtain ⟨_, _, _, _, rfl⟩ := ek; exact R2
    clear g2
    rotate_left
    -- another thing
    refine ifF (by
      cases e with
      | key b t0 c k f' =>
        cases b
        · show decide (V.str (onW false) = V.str "knob") = false; decide +kernel
        · show decide (V.str (onW true) = V.str "knob") = false; decide +kernel
      | knob t0 c k v => exact absurd ⟨_, _, _, _, rfl⟩ ek
      | voice => show decide (V.str "voice" = V.str "knob") = false; decide +kernel
      | mark => show decide (V.str "mark" = V.str "knob") = false; decide +kernel) ?_
    refine ⟨_, rfl, a, C, dx0, _, _, rfl, g.inn _ _ h0, T.cl, T.nk, look_k _ _ _, ?_⟩
    have R2 : Rws G1 q2 (st.after e).knb := by
      have : (st.after e).knb = st.knb := by
        cases e with
        | knob t0 c k v => exact absurd ⟨_, _, _, _, rfl⟩ ek
        | _ => rfl
      rw [this]
      exact r2
    obtain ⟨p2, k2, G2, H3, ep, eH, zx2, hx3, g, xG, hp2, R2⟩ : ∃ (p2 : Addr) (k2 : List Addr) (G2 H3 : Hp), l2 = p2 ∧ H2 = H3 ∧ G2 x = none ∧ H3 x = some (.ins C dx (flds (.ref p1) (.ref m2) (.ref m3))) ∧ Go (fun _ => False) H0 B G2 H3 ∧ Ex G1 G2 ∧ G2 p2 = some (.lst (k2.map V.ref)) ∧ Rws G2 k2 (st.after e).knb := ⟨l2, q2, G1, H2, rfl, rfl, zx1, hx2, g, Ex.refl _, h2, R2⟩
    rw [ep, eH]
    all_goals
      refine ⟨_, rfl, x, C, dx, _, rfl, hx3, T.cl, T.nk, (by show 3 < 1000; decide), ?_⟩
      rw [put_k]
      have g := g.turn (.ins C dx (flds (.ref p1) (.ref p2) (.ref m3))) Bx zx2
      have hx3 : upd H3 x (.ins C dx (flds (.ref p1) (.ref p2) (.ref m3))) x = some (.ins C dx (flds (.ref p1) (.ref p2) (.ref m3))) := upd_same
      revert g hx3
      generalize upd H3 x (.ins C dx (flds (.ref p1) (.ref p2) (.ref m3))) = H3
      intro g hx3
      have h0 := xG _ _ h0
      have h3 := xG _ _ h3
      have ht := xG _ _ ht
      have r3 := r3.up xG
      have hp1 := xG _ _ hp1
      have R1 := R1.up xG
      -- told._voices
      refine ⟨_, rfl, t, e.th, _, e.th.getD 0 .non, rfl, rfl, SqT.of (g.inn _ _ ht), by cases e <;> rfl, by cases e <;> rfl, _, rfl, ?_⟩
      by_cases ev : ∃ t0 c v, e = .voice t0 c v
      · refine ifT (by obtain ⟨_, _, _, rfl⟩ := ev; exact decide_eq_true rfl) ?_
        refine ⟨_, rfl, a, C, dx0, _, _, rfl, g.inn _ _ h0, T.cl, T.nv, look_v _ _ _, _, rfl, l3, t, q3, st.voi, e, G2, rfl, g.inn, h3, r3, hk.b3, ht, ev, eok, (by obtain ⟨_, _, _, rfl⟩ := ev; rfl), by have := hk.l3; omega, fun p3 k3 G3 H4 g3 hp3 R3 => ?_⟩
        have zx3 := g3.new x (by rw [hx3]; simp) zx2
        have hx4 := g3.keep _ _ hx3 (fun z => z)
        have R3 : Rws G3 k3 (st.after e).voi := by obtain ⟨_, _, _, rfl⟩ := ev; exact R3
        have xG3 := g3.up
        have g := g.then g3
        refine ⟨_, rfl, x, C, dx, _, rfl, hx4, T.cl, T.nv, (by show 3 < 1000; decide), ?_⟩
        rw [put_v]
        refine ⟨_, rfl, q x _ _ ((g.turn _ Bx zx3).set Bx upd_same zx3) nx ?_⟩
        have xN := Ex.new (o := .ins C dx (flds (.ref p1) (.ref p2) (.ref p3))) zx3
        exact ⟨dx, p1, p2, p3, k1, k2, k3, upd_same, xN _ _ (xG3 _ _ hp1), xN _ _ (xG3 _ _ hp2), xN _ _ hp3, (R1.up xG3).up xN, (R2.up xG3).up xN, R3.up xN⟩
      · refine ifF (by
          cases e with
          | key b t0 c k f' =>
            cases b
            · show decide (V.str (onW false) = V.str "voice") = false; decide +kernel
            · show decide (V.str (onW true) = V.str "voice") = false; decide +kernel
          | knob => show decide (V.str "knob" = V.str "voice") = false; decide +kernel
          | voice => exact absurd ⟨_, _, _, rfl⟩ ev
          | mark => show decide (V.str "mark" = V.str "voice") = false; decide +kernel) ?_
        refine ⟨_, rfl, a, C, dx0, _, _, rfl, g.inn _ _ h0, T.cl, T.nv, look_v _ _ _, ?_⟩
        have R3 : Rws G2 q3 (st.after e).voi := by
          have : (st.after e).voi = st.voi := by
            cases e with
            | voice => exact absurd ⟨_, _, _, rfl⟩ ev
            | _ => rfl
          rw [this]
          exact r3
        refine ⟨_, rfl, x, C, dx, _, rfl, hx3, T.cl, T.nv, (by show 3 < 1000; decide), ?_⟩
        rw [put_v]
        refine ⟨_, rfl, q x _ _ ((g.turn _ Bx zx2).set Bx upd_same zx2) nx ?_⟩
        have xN := Ex.new (o := .ins C dx (flds (.ref p1) (.ref p2) (.ref l3))) zx2
        exact ⟨dx, p1, p2, l3, k1, k2, q3, upd_same, xN _ _ hp1, xN _ _ hp2, xN _ _ h3, R1.up xN, R2.up xN, R3.up xN⟩
end
end Rt

namespace Rt
open PySem PySem.Spec PyProof.Rows L2
/-! ### a comprehension whose items' making may let an error out -/
/-- what a call in the block may let out -/
def BX (Y : Cx) (E : XK) : Value → Shared → Prop := fun u z => ∃ (H : Hp) (s : Shared), Un Y.fs Y.ex Y.H_0 H Y.s_0.heap s.heap ∧ s.os = Y.s_0.os ∧ (∃ m, s.heap.Ns Y.env.locals m) ∧ H Y.env.locals = none ∧ L2.CX Y.prog Y.w Y.stack H s E u z
section
variable {Y : Cx} {pn : List (Addr × Obj)} {E : XK} {x : Str} {p pos : Pos} {e : Expr} {es : List Expr} {t : TA} {k : Nat} {sp : Sp}
theorem pe_dxb (D : DefX Y.prog Y.w Y.K Y.mg Y.base x k sp) (hr : Room k Y.A) (hg : Gl (Y.tr pn (BX Y E)) x) (ha : PA (Y.tr pn (BX Y E)) (e :: es) t) (hdb : (x == ("__debug__" : Str)) = false := by decide)
    (he : starEach (e :: es) Y.env = (false, eval e Y.env) :: starEach es Y.env := by rfl) (hpl : (backTo pos (starEach es Y.env)).any (·.1) = false := by rfl) :
    PE (Y.tr pn (BX Y E)) (.Call (.Name x p) (e :: es) [] pos) (tCallS sp (fun _ => E) t) := by
  obtain ⟨f, fd, ps, h1, h2, h3, h4⟩ := D.ex
  exact pe_callS (X := Y.tr pn (BX Y E)) h2 hr hg h1 h3 h4 (fun σ pins H s e s' I c => ⟨H, s, I.base, I.os, (let ⟨m, a, _⟩ := I.loc; ⟨m, a⟩), I.free, c⟩) ha hdb he hpl
end
theorem frames_but {h h' B B2 : Heap} {C : Addr} (sb : Heap.SameBut C h h') : ∀ {l : List Env}, h.FunFrames B l → C ∉ frs l → (∀ L ∈ frs l, B2.get? L = none) → h'.FunFrames B2 l
  | [], _, _, _ => trivial
  | env :: l, x, nC, hn => by
    obtain ⟨a1, ⟨L, o, a2, _, a4, a5⟩, a6⟩ := x
    have hL : L ∈ frs (env :: l) := List.mem_filterMap.mpr ⟨env, .head _, a2⟩
    have sub : ∀ b ∈ frs l, b ∈ frs (env :: l) := fun b hb => by
      obtain ⟨e, he, q⟩ := List.mem_filterMap.mp hb
      exact List.mem_filterMap.mpr ⟨e, .tail _ he, q⟩
    exact ⟨a1, ⟨L, o, a2, hn L hL, (sb.2 L fun z => nC (z ▸ hL)).trans a4, a5⟩, frames_but sb a6 (fun z => nC (sub _ z)) fun b hb => hn b (sub b hb)⟩
/-- off the block, on in the def's own frame -/
theorem bx_out {X : Cx} {pins : List (Addr × Obj)} {σ : L2.St} {H3 : Hp} {s3 : Shared} {fp : List Addr} {scope : Scope} {ce : Env} {E : XK} (I3 : Inv X pins σ H3 s3) (hC : ce.locals = s3.heap.objs.size) (hcf : ce.frame = X.env.frame)
    (hs : X.stack = X.env :: X.outer) (hf : X.env.frame = some X.env.locals) (tk : Takes X (fun cls d _ H => E cls d H)) (f3 : ∀ b ∈ fp, FpOk X pins H3 b ∧ b < s3.heap.objs.size) {u : Value} {z : Shared}
    (h : BX (X.blk s3 H3 scope ce fp) E u z) : notedBy (model X.prog X.w) X.A ce (CompFails (model X.prog X.w) X.A X.xe ce) u z := by
  obtain ⟨H, s, un, os1, ⟨m, hm⟩, nC, a, B, H', cls, d, rfl, fl, hok, ub, na, os2, ag, hE⟩ := h
  have un : Un (frs X.stack) fp H3 H s3.heap s.heap := un
  have os1 : s.os = s3.os := os1
  have fl : HandSPX.FlyingZ B X.stack a (Zc cls d) z.heap := fl
  have ub : UB (frs X.stack) H H' s.heap B z.heap := ub
  have hok : HOk X.prog X.w H' B := hok
  have hm : s.heap.Ns ce.locals m := hm
  have nC : H ce.locals = none := nC
  have frm : X.A.frames = some (X.env :: X.outer) := by rw [I3.ok.frames, hs]
  have nst : ce.locals ∉ frs X.stack := fun q => by
    obtain ⟨_, o, e, _⟩ := I3.stack.mem q
    have := Heap.lt_size e
    rw [hC] at this
    exact Nat.lt_irrefl _ this
  show wpAny _ X.A (noteFrame (.ref a) ce) _ _ z
  rw [show noteFrame (.ref a) ce = noteFrame (.ref a) X.env by unfold noteFrame PySem.frameOf; rw [hcf]]
  have fl' : HandSPX.FlyingZ B (X.env :: X.outer) a (Zc cls d) z.heap := by rw [← hs]; exact fl
  refine HandSPX.looks_onZ Zc.steady frm hf fl' fun h1 hh1 up1 => ?_
  rw [← hs] at hh1
  obtain ⟨st1, nB, ff1, oe, vs, T, oT, ts, he, hz, hd, hv1, hnT, hTe, hT, hdT, h3⟩ := hh1
  obtain ⟨oC, es, ep, hoC, hdC, hkC, hfC⟩ := hm
  have bC : B.get? ce.locals = some oC := ub.keep _ _ hoC nC nst
  have c1 : h1.get? ce.locals = some oC := st1 _ _ bC
  have aC : a ≠ ce.locals := fun q => by
    rw [q, c1] at he
    cases he
    rw [hdC] at hd
    cases hd
  have TC : T ≠ ce.locals := fun q => by
    rw [q, c1] at hT
    cases hT
    rw [hdC] at hdT
    cases hdT
  refine ⟨m, ⟨oC, es, ep, c1, hdC, hkC, hfC⟩, fun h2 m2 _ sb => ?_⟩
  -- the ground without the block's names
  have gB : ∀ b o, B.get? b = some o → b ≠ ce.locals → (PySem.W.hideAll B [ce.locals]).get? b = some o := fun b o e n => PySem.W.hideAll_get _ e fun q => n (List.mem_singleton.mp q)
  have oB : ∀ b o, (PySem.W.hideAll B [ce.locals]).get? b = some o → B.get? b = some o ∧ b ≠ ce.locals := fun b o e => ⟨PySem.W.of_hideAll _ e, fun q => by
    rw [PySem.W.hideAll_none _ (List.mem_singleton.mpr q)] at e
    cases e⟩
  have oN : ∀ b, B.get? b = none → (PySem.W.hideAll B [ce.locals]).get? b = none := fun b e => by
    cases q : (PySem.W.hideAll B [ce.locals]).get? b with
    | none => rfl
    | some o =>
      rw [(oB b o q).1] at e
      cases e
  generalize PySem.W.hideAll B [ce.locals] = B2 at gB oB oN
  have nfB : ∀ L ∈ frs X.stack, B.get? L = none := fun L hL => (ff1.mem hL).1
  have hh2 : HandSPX.HeldZ B2 X.stack a (Zc cls d) X.env.locals h2 :=
    ⟨fun b o q => (sb.2 b (oB b o q).2).trans (st1 b o (oB b o q).1), oN _ nB, frames_but sb ff1 nst (fun L hL => oN L (nfB L hL)),
      oe, vs, T, oT, ts, (sb.2 a aC).trans he, hz, hd, hv1, oN T hnT, hTe, (sb.2 T TC).trans hT, hdT, h3⟩
  unfold PySem.passOn
  refine wpAny_bind (wpAny_field (x := .ref T) ((sb.2 a aC).trans he) hd hv1 ?_)
  rw [if_neg (show ¬ ((Value.ref T == Value.none) = true) by simp)]
  -- the state without the error
  obtain ⟨G, g1, g2⟩ := restrict z.heap fun b => (B2.get? b).isSome || decide (b ∈ frs X.stack)
  have gG : ∀ b o, B2.get? b = some o → G.get? b = some o := fun b o e => by
    rw [g1 b (by rw [e]; rfl)]
    exact fl.1 b o (oB b o e).1
  have gF : ∀ b, b ∈ frs X.stack → G.get? b = z.heap.get? b := fun b hb => g1 b (by rw [decide_eq_true hb, Bool.or_true])
  have oG : ∀ b o, G.get? b = some o → z.heap.get? b = some o ∧ (B2.get? b = some o ∨ b ∈ frs X.stack) := fun b o e => by
    cases q : ((B2.get? b).isSome || decide (b ∈ frs X.stack)) with
    | false => rw [g2 b q] at e; cases e
    | true =>
      rw [g1 b q] at e
      rcases Bool.or_eq_true_iff.mp q with q | q
      · obtain ⟨o', q⟩ := Option.isSome_iff_exists.mp q
        have := fl.1 b o' (oB b o' q).1
        rw [e] at this
        cases this
        exact ⟨e, .inl q⟩
      · exact ⟨e, .inr (of_decide_eq_true q)⟩
  have ltC : ∀ b o, s3.heap.get? b = some o → b ≠ ce.locals := fun b o e q => by
    have := Heap.lt_size e
    rw [q, hC] at this
    exact Nat.lt_irrefl _ this
  have H'C : H' ce.locals = none := ub.free _ _ hoC nC
  have uG : Un (frs X.stack) fp H3 H' s3.heap G := by
    refine ⟨fun b o e n hb hx => gG b o (gB b o (ub.keep b o (un.keep b o e n hb hx) (un.free b o e n hx) hb) (ltC b o e)), fun b o e n hb hx => ?_, fun b o e n hx => ?_, fun b o e hx => ?_, fun b xs e => ub.tups b xs (un.tups b xs e), fun b o xs e => ub.frzs b o xs (un.frzs b o xs e), fun b ps e => ?_⟩
    · obtain ⟨s1, q1⟩ := un.slot b o e n hb hx
      obtain ⟨s2, q2⟩ := ub.slot b _ q1 hb
      exact ⟨s2, by rw [gF b hb]; exact q2⟩
    · obtain ⟨sl, q⟩ := un.any e n hx
      exact ub.free b _ q (un.free b o e n hx)
    · obtain ⟨o1, q1⟩ := un.there b o e hx
      by_cases hb : b ∈ frs X.stack
      · obtain ⟨s2, q2⟩ := ub.slot b _ q1 hb
        exact ⟨_, by rw [gF b hb]; exact q2⟩
      · obtain ⟨o2, q2⟩ := ub.there b _ q1 hb
        exact ⟨o2, gG b o2 (gB b o2 q2 (ltC b o e))⟩
    · obtain ⟨m1, q1⟩ := un.tbls b ps e
      obtain ⟨m2, q2⟩ := ub.tbls b _ q1
      exact ⟨m1 ++ m2, by rw [q2, Array.append_assoc]⟩
  have hG : HOk X.prog X.w H' G := fun b o q => (hok b o q).stay (fun c w hc r => gG c w (gB c w r fun e => by
    rcases hc with hc | hc
    · rw [← hc, e] at q
      rw [H'C] at q
      cases q
    · rw [e, H'C] at hc
      cases hc)) (fun _ r => r) fun _ _ r => r
  have J : Inv X pins σ H' { s3 with heap := G, gens := z.gens, drawn := z.drawn, toks := z.toks } := I3.call (ch := fp) uG hG ag fun b hb => ⟨(f3 b hb).1.2.2.2.1, (f3 b hb).1.2.1, (f3 b hb).1.2.2.2.2.1, (f3 b hb).1.2.2.2.2.2⟩
  refine wpAny_bind ?_
  rw [hcf, hf]
  refine HandSPX.setFlight_onZ hh2 fun h4 hh4 up4 => ?_
  refine wpAny_throw (tk _ _ ⟨a, B2, _, pins, σ, H', cls, d, rfl, J, fun b o e hb => ?_, fun b o e hnf => ?_, .inr (.inr hh4), na, ?_, ag, hE⟩)
  · exact (oG b o e).2.elim (fun q => q) fun q => absurd q hb
  · obtain ⟨e1, e2⟩ := oG b o e
    have nb : b ≠ ce.locals := e2.elim (fun q => (oB b o q).2) fun q r => nst (r ▸ q)
    obtain ⟨l1, q1⟩ := up1 b o e1 hnf
    obtain ⟨l2, q2⟩ := up4 b { o with slots := l1 } ((sb.2 b nb).trans q1) hnf
    exact ⟨l2, q2⟩
  · show z.os = s3.os
    rw [os2, os1]
section
variable {X : Cx}
theorem lcx_core {pins : List (Addr × Obj)} {s : Shared} {σ : L2.St} {H : Hp} {Q : VK} {elt tg iter : Expr} {ifs : List Expr} {scope : Scope} {own : List (Str × Nat)} {pos pos' : Pos} {wIt : TI} {g : TG} {tt : TT} {te : TE} {E : XK} {use : Option (Value → Sem Unit)} {Qf : Value → Shared → Prop}
    (hc : X.calm = true) (hN : X.N.Nodup) (I : Inv X pins σ H s) (hi : PI X tg iter wIt) (ok : BlkOk X.N X.env.scope scope own) (hst : X.stack = X.env :: X.outer) (hf : X.env.frame = some X.env.locals) (tk : Takes X (fun cls d _ H => E cls d H))
    (hg : ∀ s H C cl fp, PG (X.blk s H scope (compEnvC scope cl C X.env) fp) tg g) (ht : ∀ s H C cl fp, PTs (X.blk s H scope (compEnvC scope cl C X.env) fp) ifs tt)
    (he : ∀ s H C cl fp pn, PE ((X.blk s H scope (compEnvC scope cl C X.env) fp).tr pn (BX (X.blk s H scope (compEnvC scope cl C X.env) fp) E)) elt te) (hs : ∀ x, foldedSetIterable iter X.env x = pure x)
    (h : tLc wIt g tt te (own.map (·.2)) σ H Q)
    (hRR : ∀ D s' m H' (cenv : Env), Inv X pins σ H' s' → Q (.ref D) H' → s'.heap.Ns cenv.locals m → FpOk X pins H' cenv.locals → compEnds (model X.prog X.w) X.A X.xe use Qf (.ref D) cenv (.ok .next) s') :
    wpAny (model X.prog X.w) X.A
      (comprehension (.ListComp elt [⟨tg, iter, ifs, 0⟩] scope pos) scope X.env pos' (newList []) false (eval iter X.env) use) Qf X.xe s := by
  have free : ∀ y ∈ scope.names, y.2 = .free → ∃ c, X.env.cells.lookup y.1 = some c := fun y hy e => (ok.free y hy e).elim (fun k => I.ok.has _ (.inl k)) fun k => I.ok.has _ (.inr k)
  refine comprehension_at (use := use) rfl hs (closure_ok free) ok.kind (fun y hy e => by rw [ok.uniq y hy, e]) (thn (hi.run pins s σ H _ I h) fun xv s1 hx => thn hx fun itv sA h2 => ?_)
  obtain ⟨it, fp, tn, J, H2, rfl, I2, T, t2, o2, q⟩ := h2
  refine wpAny_newObj_type (newEnv_comp ?_) (Nat.zero_le _)
  generalize eD : sA.heap.objs.size = D
  have nD : H2 D = none := I2.hok.fresh (Nat.le_of_eq eD)
  obtain ⟨W, ⟨m0, w0⟩, turn⟩ := q D nD
  generalize e3 : ({ sA with heap := sA.heap.push { cls := .type "list", data := .seq ([] : List Value).toArray } } : Shared) = sB
  have q3 : sB.heap = sA.heap.push { cls := .type "list", data := .seq ([] : List Value).toArray } := by rw [← e3]
  have IB : Inv X pins σ (upd H2 D (.lst [])) sB := by
    subst e3
    exact I2.laid (t' := sA.toks) (fun b o e => Heap.get?_push_of_some _ e) (Nat.le_of_eq eD) ⟨Nat.zero_le _, [], 0, .nil, by rw [← eD]; exact Heap.get?_push_size _ rfl⟩
  have small : ∀ b ∈ fp, b < sA.heap.objs.size := fun b hb => let ⟨o, e, _⟩ := T.obj _ _ t2 b hb; Heap.lt_size e
  have oF : ∀ b ∈ fp, FpOk X pins (upd H2 D (.lst [])) b ∧ b < sB.heap.objs.size := fun b hb =>
    ⟨⟨by rw [upd_ne (fun z => Nat.lt_irrefl D (by have := small b hb; rw [eD, z] at this; exact this))]; exact (o2 b hb).1, (o2 b hb).2⟩, by rw [q3, Heap.size_push]; exact Nat.lt_succ_of_lt (small b hb)⟩
  have t3 : tn 0 sB.heap := T.keep _ _ _ t2 fun b _ o e => by rw [q3]; exact Heap.get?_push_of_some _ e
  show codeAny _ _ (.compStart (.ListComp elt [⟨tg, iter, ifs, 0⟩] scope pos) 0 (.ref it) (.ref D) (compEnvC scope (cellsFrom (sB.heap.objs.size + 1) scope.names (cloFrom X.env.cells scope.names [])) sB.heap.objs.size X.env)) (compEnds (model X.prog X.w) X.A X.xe use Qf (.ref D) (compEnvC scope (cellsFrom (sB.heap.objs.size + 1) scope.names (cloFrom X.env.cells scope.names [])) sB.heap.objs.size X.env)) { sB with heap := pushCells (sB.heap.push { cls := .type "dict", data := .dict #[] }) scope.names }
  have IA := block_start IB ok hN oF
  generalize cellsFrom (sB.heap.objs.size + 1) scope.names (cloFrom X.env.cells scope.names []) = cl at IA ⊢
  have pg := hg sB (upd H2 D (.lst [])) sB.heap.objs.size cl fp
  have pt := ht sB (upd H2 D (.lst [])) sB.heap.objs.size cl fp
  have pe := he sB (upd H2 D (.lst [])) sB.heap.objs.size cl fp
  have cF : (compEnvC scope cl sB.heap.objs.size X.env).frame = X.env.frame := rfl
  have cL : (compEnvC scope cl sB.heap.objs.size X.env).locals = sB.heap.objs.size := rfl
  have noF : ∀ b ∈ fp, (upd H2 D (.lst [])) b = none := fun b hb => (oF b hb).1.1
  generalize compEnvC scope cl sB.heap.objs.size X.env = ce at IA pg pt pe cF cL ⊢
  generalize upd H2 D (.lst []) = HB at IB IA pg pt pe w0 noF oF
  generalize e4 : ({ sB with heap := pushCells (sB.heap.push { cls := .type "dict", data := .dict #[] }) scope.names } : Shared) = s4 at IA ⊢
  have t4 : tn 0 s4.heap := T.keep _ _ _ t3 fun b _ o e => by rw [← e4]; exact pushCells_keeps _ _ _ _ (Heap.get?_push_of_some _ e)
  have okb := IA.ok
  have stat : ∀ {σ' : L2.St} {H' : Hp} {s' : Shared}, Inv (X.blk sB HB scope ce fp) [] σ' H' s' → (∀ b ∈ fp, H' b = none) → ∀ b ∈ fp, FpOk (X.blk sB HB scope ce fp) [] H' b := fun {σ' H' s'} I' hn b hb =>
    ⟨hn b hb, (okb.exf b hb).1, okb.exfs b hb, .inl hb, fun x c e => (okb.exf b hb).2 x c e, fun p hp => nomatch hp⟩
  have loop : codeAny (model X.prog X.w) X.A (.compLoop (.ListComp elt [⟨tg, iter, ifs, 0⟩] scope pos) 0 (.ref it) (.ref D) ce) (compEnds (model X.prog X.w) X.A X.xe use Qf (.ref D) ce) s4 := by
    refine compLoop_any (fun n s' => ∃ i H', Inv (X.blk sB HB scope ce fp) [] (wipe σ (own.map (·.2))) H' s' ∧ tn i s'.heap ∧ (∀ b ∈ fp, H' b = none) ∧ W i n H') (fun n s5 hI => ?_) m0 ⟨0, HB, IA, t4, noF, w0⟩
    obtain ⟨i, H5, I5, t5, n5, wN⟩ := hI
    rcases turn i n H5 wN with ⟨stop, qEnd⟩ | ⟨go, Nx, hNext, step⟩
    · refine thnF (T.done (X.blk sB HB scope ce fp) rfl rfl rfl hc i [] s5 _ H5 (fun _ _ => False) I5 (stat I5 n5) t5 stop) fun r s6 hr6 => ?_
      obtain ⟨rfl, I6⟩ := hr6
      have IG : Inv X pins σ H5 s6 := IB.call' (ch := fp) I6.os I6.base I6.hok I6.bare fun b hb => ⟨(oF b hb).1.2.2.2.1, (oF b hb).1.2.1, (oF b hb).1.2.2.2.2.1, (oF b hb).1.2.2.2.2.2⟩
      obtain ⟨m, hn, _⟩ := I6.loc
      have fr : H5 ce.locals = none := I6.free
      exact hRR D s6 m H5 ce IG qEnd hn (IB.fpOk (Nat.le_of_eq cL.symm) fr)
    · refine thnF (T.item (X.blk sB HB scope ce fp) rfl rfl rfl hc i [] s5 _ H5 (fun _ _ => False) I5 (stat I5 n5) t5 go) fun r s6 hr6 => ?_
      obtain ⟨u, rfl, h6⟩ := hr6
      refine thnF h6 fun _ sG h7 => ?_
      obtain ⟨x, H7, IG, r7, y7, t7, n7⟩ := h7
      have IGp := IG.pinned (stat IG n7) (T.obj _ _ t7)
      refine thnF (pg.run _ sG _ H7 x u _ IGp r7 (step x H7 y7)) fun _ sH h8 => ?_
      obtain ⟨σ8, H8, I8, hw8, q8⟩ := h8
      refine thnF (pt.run _ sH σ8 H8 _ I8 q8) fun b s9 h9 => ?_
      obtain ⟨H9, I9, q9⟩ := h9
      have fin : ∀ {s' : Shared} {H' : Hp}, Inv (X.blk sB HB scope ce fp) ([] ++ pinsAt fp sG.heap) σ8 H' s' → Nx H' → ∃ m, m < n ∧ ∃ i H', Inv (X.blk sB HB scope ce fp) [] (wipe σ (own.map (·.2))) H' s' ∧ tn i s'.heap ∧ (∀ b ∈ fp, H' b = none) ∧ W i m H' := fun {s' H'} I' nx => by
        obtain ⟨m', hm, w'⟩ := hNext H' nx
        have pin' : ∀ b ∈ fp, ∀ o, sG.heap.get? b = some o → s'.heap.get? b = some o ∧ H' b = none := fun b hb o e => ⟨(I'.pin (b, o) (List.mem_append_right _ (List.mem_append_right _ (mem_pinsAt hb e)))).1, (I'.pin (b, o) (List.mem_append_right _ (List.mem_append_right _ (mem_pinsAt hb e)))).2.1⟩
        refine ⟨m', hm, i + 1, H', I'.unpinned.weak (by rw [← hw8, wipe_length]) (fun j v e => ?_), T.keep _ _ _ t7 fun b hb o e => (pin' b hb o e).1, fun b hb => ?_, w'⟩
        · rw [← hw8] at e
          exact (wipe_some e).1
        · obtain ⟨o, e, _⟩ := T.obj _ _ t7 b hb
          exact (pin' b hb o e).2
      cases b with
      | false => exact fin I9 q9
      | true =>
        refine wpAny_mono ((pe _).run [] s9 σ8 H9 _ (I9.toTry _) q9) (fun z s10 hz => ?_) fun u z hz => bx_out IB cL cF hst hf tk oF hz
        obtain ⟨yv, H10, I10, r10, acc, eD10, hz10, nx⟩ := hz
        exact app_ok (X := X.blk sB HB scope ce fp) (I10.ofTry okb) eD10 hz10 r10 fun s11 I11 => fin I11 nx
  exact codeAny_compStart_list loop (T.self X.A 0 _ _ _ t4 loop)
theorem pe_lcx {elt tg iter : Expr} {ifs : List Expr} {scope : Scope} {own : List (Str × Nat)} {pos : Pos} {wIt : TI} {g : TG} {tt : TT} {te : TE} {E : XK} (hc : X.calm = true) (hN : X.N.Nodup) (hi : PI X tg iter wIt) (ok : BlkOk X.N X.env.scope scope own)
    (hst : X.stack = X.env :: X.outer) (hf : X.env.frame = some X.env.locals) (tk : Takes X (fun cls d _ H => E cls d H))
    (hg : ∀ s H C cl fp, PG (X.blk s H scope (compEnvC scope cl C X.env) fp) tg g) (ht : ∀ s H C cl fp, PTs (X.blk s H scope (compEnvC scope cl C X.env) fp) ifs tt)
    (he : ∀ s H C cl fp pn, PE ((X.blk s H scope (compEnvC scope cl C X.env) fp).tr pn (BX (X.blk s H scope (compEnvC scope cl C X.env) fp) E)) elt te) (hs : ∀ x, foldedSetIterable iter X.env x = pure x := by intro _; rfl) :
    PE X (.ListComp elt [⟨tg, iter, ifs, 0⟩] scope pos) (tLc wIt g tt te (own.map (·.2))) := by
  refine ⟨fun pins s σ H Q I h => ?_⟩
  rw [eval_ListComp]
  refine lcx_core hc hN I hi ok hst hf tk hg ht he hs h fun D s' m H' cenv I' q hn f => ⟨m, hn, fun h'' sb => ?_⟩
  obtain ⟨o0, o1, o2, oF, o4, o5⟩ := f
  exact ⟨.ref D, H', I'.turned (t' := s'.toks) (fun b o hb e => (sb.2 b hb).trans e) o0 o1 oF o4 o5, rfl, q⟩
end
end Rt

namespace Rt
open PySem PySem.Spec PyProof.Rows L2 RZ TL LamX
section
variable {P : Program} {w : World} {K : PySem.W.Frag} {mg : Str → Option Value} {base : Heap}
abbrev s_is_within : Stmt := topS 6
theorem sc_is_within : FnScope ["thing", "low", "high"] ["thing", "low", "high"] (defScope s_is_within) := ⟨rfl, rfl, rfl, by decide +kernel, rfl, by decide +kernel, by decide +kernel⟩
theorem tyS {K : PySem.W.Frag} {H : Hp} (s : Str) : TyX K H (.str s) (.type "str") := .base (.str s)
theorem tyI {K : PySem.W.Frag} {H : Hp} (z : Int) : TyX K H (.int z) (.type "int") := .base (.int z)
/-- a number between its bounds -/
def spWithin : Sp := fun vs H Q _ => ∃ (x : V) (lo hi : Int), vs = [x, .int lo, .int hi] ∧ Scal x ∧ Q (.bl (withinV x lo hi)) H
theorem ok_is_within {f : Addr} {fd : FuncData} (F : Fun K "is_within" "is_within" s_is_within f fd) (m_isinstance : mg "isinstance" = none) (m_int : mg "int" = none) (m_bool : mg "bool" = none) : FnOk P w K mg base CX0 1 f fd ["thing", "low", "high"] spWithin := by
  refine F.ok sc_is_within (fun vs H Q E h => ?_) (fun cdv A outer s H vs Q E hr h => ?_)
  · obtain ⟨x, lo, hi, rfl, _⟩ := h
    rfl
  · obtain ⟨x, lo, hi, rfl, hx, q⟩ := h
    refine ⟨_, (pss_one (ps_ret (pe_and (pe_callB call_isi (by rfl) m_isinstance bt_isinstance (pa_cons (pv 0) (pa_cons (pe_bltn (v := .ty "int") (by rfl) m_int bt_int rfl) pa_nil))) (pe_and (pe_not (pe_callB call_isi (by rfl) m_isinstance bt_isinstance (pa_cons (pv 0) (pa_cons (pe_bltn (v := .ty "bool") (by rfl) m_bool bt_bool rfl) pa_nil)))) (pe_one (pe_chain op_le op_le (pv 1) (pv 0) (pv 2))))))), ?_⟩
    rcases hx with ⟨z, rfl⟩ | ⟨z, rfl, _⟩
    · refine ⟨_, rfl, _, _, _, _, true, rfl, .ty "int", tyI z, kit_ty (by decide +kernel), _, rfl, ifT rfl ?_⟩
      refine ⟨_, rfl, _, _, _, _, false, rfl, .ty "bool", tyI z, kit_ty (by decide +kernel), _, rfl, _, rfl, ifT rfl ?_⟩
      refine ⟨_, rfl, _, rfl, _, _, rfl, rfl, _, rfl, ifD (fun c => ?_) (fun c => ?_)⟩
      · refine ⟨_, rfl, _, _, rfl, rfl, ?_⟩
        have e : withinV (.int z) lo hi = decide (z ≤ hi) := by
          show (decide (lo ≤ z) && decide (z ≤ hi)) = _
          rw [decide_eq_true c, Bool.true_and]
        rw [e] at q
        exact q
      · have e : withinV (.int z) lo hi = false := by
          show (decide (lo ≤ z) && decide (z ≤ hi)) = _
          rw [decide_eq_false c, Bool.false_and]
        rw [e] at q
        exact q
    · refine ⟨_, rfl, _, _, _, _, false, rfl, .ty "int", tyS z, kit_ty (by decide +kernel), _, rfl, ifF rfl q⟩
abbrev s_need_tick : Stmt := topS 7
theorem sc_need_tick : FnScope ["tick"] ["tick"] (defScope s_need_tick) := ⟨rfl, rfl, rfl, by decide +kernel, rfl, by decide +kernel, by decide +kernel⟩
def spNeedTick (K : PySem.W.Frag) (mg : Str → Option Value) : Sp := fun vs H Q E => ∃ (t : Int), vs = [.int t] ∧ t.natAbs < 10 ^ 40 ∧
  (0 ≤ t → t ≤ 999999 → Q .non H) ∧ (¬ (0 ≤ t ∧ t ≤ 999999) → ∀ cls d H', Raised K mg "badtick" true H cls d H' → E cls d H')
theorem ok_need_tick {f : Addr} {fd : FuncData} (F : Fun K "need_tick" "need_tick" s_need_tick f fd) (T_BadTick : ErrK P w K mg base 1 "BadTick" "badtick" true) (D_is_within : Def P w K mg base "is_within" 1 spWithin) (c_MOST_TICK : ∃ u, mg "MOST_TICK" = some u ∧ L2.RelV (.int 999999) u) : FnOk P w K mg base (L2.CX P w) 3 f fd ["tick"] (spNeedTick K mg) := by
  refine F.okX sc_need_tick (fun vs H Q E h => ?_) (fun cdv A outer s H vs Q E hr h => ?_)
  · obtain ⟨t, rfl, _⟩ := h
    rfl
  · obtain ⟨t, rfl, hb, q, qe⟩ := h
    refine ⟨_, (pss_one (ps_if (pt_not (pt_val (pe_d D_is_within (hr.mono (by decide)) rfl (pa_cons (pv 0) (pa_cons pe_int (pa_cons (C8.pe_gc rfl c_MOST_TICK) pa_nil)))))) (pss_one (ps_raiseK rfl T_BadTick (hr.mono (by decide)) (takes_of rfl rfl rfl rfl) rfl (pa_cons (pe_joined (.cons (pe_fmt (pv 0)) (.cons pe_str .nil))) pa_nil))) pss_nil)), ?_⟩
    refine ⟨_, rfl, _, _, _, rfl, .inl ⟨_, rfl⟩, _, rfl, ?_⟩
    have e : withinV (.int t) 0 999999 = (decide (0 ≤ t) && decide (t ≤ 999999)) := rfl
    rw [e]
    by_cases c1 : 0 ≤ t ∧ t ≤ 999999
    · rw [decide_eq_true c1.1, decide_eq_true c1.2]
      exact ifF rfl (q c1.1 c1.2)
    · have e2 : (decide (0 ≤ t) && decide (t ≤ 999999)) = false := by
        rw [← Bool.decide_and]
        exact decide_eq_false c1
      rw [e2]
      refine ifT rfl ?_
      refine ⟨_, rfl, .inr ⟨_, rfl, log_small hb, _, rfl, mem_sz (Nat.le_trans (txt_sz (by decide +kernel) hb) (by decide)), _, rfl, mem_sz ?_, ?_⟩⟩
      · rw [str_len]
        have := txt_sz (a := Str.empty) (by decide +kernel) hb
        show _ + 11 ≤ 1000000
        omega
      · exact ⟨_, rfl, fun cls d H' R => qe c1 cls d H' R⟩
abbrev s_stand_behind : Stmt := topS 13
theorem sc_stand_behind : FnScope ["stand", "events", "event"] ["stand", "events"] (defScope s_stand_behind) := ⟨rfl, rfl, rfl, by decide +kernel, rfl, by decide +kernel, by decide +kernel⟩
def spStandBehind (C : Addr) : Sp := fun vs H Q _ => ∃ (a0 r : Addr) (s0 : Sta) (n : Nat) (ps : List Addr) (es : List Evt) (H0 : Hp), vs = [.ref a0, .ref r] ∧ Ex H0 H ∧ StaAt C H0 a0 s0 ∧ s0.Ok n ∧ n + es.length ≤ 62 ∧ H0 r = some (.lst (ps.map V.ref)) ∧ Evs H0 ps (es.map Evt.v) ∧ (∀ e ∈ es, e.Ok) ∧
  ∀ (a : Addr) (G H' : Hp), Go (fun _ => False) H0 H G H' → (a = a0 ∨ H a = none) → StaAt C G a (es.foldl Sta.after s0) → Q (.ref a) H'
theorem fold_ok : ∀ (es : List Evt) (s : Sta) (n : Nat), s.Ok n → (∀ e ∈ es, e.Ok) → (es.foldl Sta.after s).Ok (n + es.length) := by
  intro es
  induction es with
  | nil => intro s n h _; exact h
  | cons x xs ih =>
    intro s n h hx
    have := ih (s.after x) (n + 1) (h.after (hx x (.head _))) fun e he => hx e (.tail _ he)
    rw [List.length_cons, show n + (xs.length + 1) = n + 1 + xs.length by omega]
    exact this
theorem ok_stand_behind {f C : Addr} {fd : FuncData} (F : Fun K "stand_behind" "stand_behind" s_stand_behind f fd) (M_Stand_after : C8.Met P w K mg base 3 C "after" (spAfter C) []) : FnOk P w K mg base CX0 4 f fd ["stand", "events"] (spStandBehind C) := by
  refine F.ok sc_stand_behind (fun vs H Q E h => ?_) (fun cdv A outer s B vs Q E hr h => ?_)
  · obtain ⟨a0, r, s0, n, ps, es, H0, rfl, _⟩ := h
    rfl
  · obtain ⟨a0, r, s0, n, ps, es, H0, rfl, e0, hs, hok0, hl, hr0, hev, hok, q⟩ := h
    refine ⟨_, (pss_cons (ps_for PassesOwn.never rfl (pi_list (pv 1)) (pg_name (i := 2) sc_stand_behind.nd rfl (Or.inl rfl)) (pss_one (ps_set (i := 0) sc_stand_behind.nd rfl (Or.inl rfl) (C8.pe_mt M_Stand_after hr (by decide) (pv 0) (pa_cons (pe_slice sl_tup (pv 2) (po_some pe_int) po_none) pa_nil)))))
      (pss_one (ps_ret (pv 0)))), ?_⟩
    have g := Go.refl (m := fun _ => False) e0
    have lp : (ps.map V.ref).length = es.length := by rw [List.length_map, hev.len]
    refine ⟨_, rfl, r, rfl, ⟨_, SqL.of (g.inn _ _ hr0)⟩, for_list (K := K) (a := r) (xs := ps.map V.ref) (fun i σ H' => ∃ (v3 : Option V) (a : Addr) (G : Hp), σ = [some (.ref a), some (.ref r), v3] ∧ Go (fun _ => False) H0 B G H' ∧ (a = a0 ∨ B a = none) ∧ StaAt C G a ((es.take i).foldl Sta.after s0))
      ⟨none, a0, H0, rfl, g, .inl rfl, hs⟩ (fun i σ H' _ ⟨_, _, G, _, g, _⟩ => SqL.of (g.inn _ _ (g.up _ _ hr0))) ?_ ?_⟩
    · rintro i y σ H' hx ⟨v3, a, G, rfl, g, Ba, hS⟩
      obtain ⟨p, e, rfl, hp, he, hpe⟩ := evs_at (hev.up g.up) hx
      have eok := hok e (List.mem_of_getElem? he)
      have il := (List.getElem?_eq_some_iff.mp he).1
      obtain ⟨dxa, l1, l2, l3, q1, q2, q3, hins, _⟩ := id hS
      refine ⟨_, rfl, a, dxa, _, rfl, g.inn _ _ hins, look_no _ _ _ (by decide +kernel) (by decide +kernel) (by decide +kernel), ?_⟩
      refine ⟨_, rfl, _, rfl, p, _, rfl, SqT.of (g.inn _ _ hpe), fun z => ?_, fun t n1 => ?_⟩
      · have := z.1
        rw [sI_one _ _ (by have := v_len e; omega)] at this
        omega
      rw [cut_th]
      obtain ⟨G1, H2, e2, g, ht, xG1⟩ := g.nw (.tup e.th) n1
      rw [e2]
      have ok : ((es.take i).foldl Sta.after s0).Ok 62 := (fold_ok (es.take i) s0 n hok0 fun e he => hok e (List.mem_of_mem_take he)).mono (by
        rw [List.length_take]
        omega)
      refine ⟨a, t, (es.take i).foldl Sta.after s0, 62, e, G1, rfl, g.inn, hS.up xG1, ok, Nat.le_refl _, ht, eok, fun b G2 H3 g2 nb hS2 => ?_⟩
      refine ⟨_, b, G2, rfl, g.then g2, .inr (g.fresh nb), ?_⟩
      rw [take_snoc he, List.foldl_append]
      exact hS2
    · rintro σ H' ⟨v3, a, G, rfl, g, Ba, hS⟩
      rw [lp, List.take_length] at hS
      exact ⟨_, rfl, q a G H' g Ba hS⟩
abbrev s_stand_at_x : Stmt := topS 12
theorem sc_stand_at_x : FnScope ["track", "tick", "event"] ["track", "tick"] (defScope s_stand_at_x) := ⟨rfl, rfl, rfl, by decide +kernel, rfl, by decide +kernel, by decide +kernel⟩
def spStandAtX (K : PySem.W.Frag) (mg : Str → Option Value) (C : Addr) : Sp := fun vs H Q E => ∃ (r : Addr) (tk : Int) (ps : List Addr) (es : List Evt) (H0 : Hp), vs = [.ref r, .int tk] ∧ Ex H0 H ∧ H0 r = some (.lst (ps.map V.ref)) ∧ Evs H0 ps (es.map Evt.v) ∧ es.length ≤ 62 ∧ (∀ e ∈ es, e.Ok) ∧ tk.natAbs < 10 ^ 40 ∧
  (¬ (0 ≤ tk ∧ tk ≤ 999999) → ∀ cls d H', Raised K mg "badtick" true H cls d H' → E cls d H') ∧
  (0 ≤ tk → tk ≤ 999999 → ∀ (a : Addr) (G H' : Hp), Go (fun _ => False) H0 H G H' → H a = none → StaAt C G a (staAt es tk) → Q (.ref a) H')
theorem ok_stand_at_x {f C : Addr} {fd : FuncData} (F : Fun K "stand_at" "stand_at" s_stand_at_x f fd) (MK_Stand : C8.Mak P w K mg base 1 "Stand" C (spNew C) []) (D_stand_behind : Def P w K mg base "stand_behind" 4 (spStandBehind C)) (D_need_tick : DefX P w K mg base "need_tick" 3 (spNeedTick K mg)) : FnOk P w K mg base (L2.CX P w) 5 f fd ["track", "tick"] (spStandAtX K mg C) := by
  refine F.okX sc_stand_at_x (fun vs H Q E h => ?_) (fun cdv A outer s B vs Q E hr h => ?_)
  · obtain ⟨r, tk, ps, es, H0, rfl, _⟩ := h
    rfl
  · obtain ⟨r, tk, ps, es, H0, rfl, e0, hr0, hev, hl, hok, tb, qe, q⟩ := h
    refine ⟨_, (pss_cons (ps_expr (pe_dx D_need_tick (hr.mono (by decide)) rfl (takes_of rfl rfl rfl rfl) (pa_cons (pv 1) pa_nil)))
      (pss_one (ps_ret (pe_d D_stand_behind (hr.mono (by decide)) rfl (pa_cons (pe_new0 MK_Stand hr (by decide) rfl) (pa_cons (pe_lc (own := [("event", 2)]) (g := gName 2)  rfl sc_stand_at_x.nd (pi_list (pv 0)) (blkOk_by (N := ["track", "tick", "event"]) (sc := defScope s_stand_at_x) (by decide +kernel)) (fun _ _ _ _ _ => pg_name (i := 2) sc_stand_at_x.nd rfl (Or.inl rfl)) (fun _ _ _ _ _ => pts_one (pt_cmpR op_le (pe_ix (r := rIxT K) ix_tup (pv 2) pe_int (fun _ _ => rfl)) (pv 1) (nomark _))) (fun _ _ _ _ _ => (pv 2))) pa_nil)))))), ?_⟩
    refine ⟨_, rfl, tk, rfl, tb, fun t0 t1 => ?_, fun c cls d H' R => qe c cls d H' R⟩
    have q := q t0 t1
    have g := Go.refl (m := fun _ => False) e0
    have lp : (ps.map V.ref).length = es.length := by rw [List.length_map, hev.len]
    -- Stand()
    intro x dx nx ndx nex
    have Bx := g.fresh nx
    have g := (g.lay (.own x) ndx).lay (.ins C dx []) (by rw [upd_ne nex.symm]; exact nx)
    have Zx : H0 x = none := e0.free nx
    refine ⟨x, dx, H0, rfl, g.inn, upd_same, Zx, fun m1 m2 m3 H1 g1 hx1 hm1 hm2 hm3 n1 n2 n3 d12 d13 d23 => ⟨rfl, ?_⟩⟩
    have f1 := g.fresh n1
    have f2 := g.fresh n2
    have f3 := g.fresh n3
    have x1 := ne_of_none (upd_same (H := upd B dx (.own x)) (a := x) (o := HO.ins C dx [])) n1
    have x2 := ne_of_none (upd_same (H := upd B dx (.own x)) (a := x) (o := HO.ins C dx [])) n2
    have x3 := ne_of_none (upd_same (H := upd B dx (.own x)) (a := x) (o := HO.ins C dx [])) n3
    have g : Go (fun _ => False) H0 B H0 H1 := g.trans g1 fun y hy z => by
      rw [z] at hy
      exact absurd Bx hy
    have z1 := e0.free f1
    have z2 := e0.free f2
    have z3 := e0.free f3
    obtain ⟨G0, g, xG, hS⟩ := settle_new g hx1 hm1 hm2 hm3 Bx f1 f2 f3 Zx z1 z2 z3 x1 x2 x3 d12 d13 d23
    have hr0 := xG _ _ hr0
    have hev := hev.up xG
    -- the events up to the tick
    refine ⟨_, rfl, r, rfl, ⟨_, SqL.of (g.inn _ _ hr0)⟩, fun D hD => ?_⟩
    have BD := g.fresh hD
    have ZD := g.fresh0 hD
    refine lc_list (xs := ps.map V.ref) (fun j HH => ∃ qs : List Addr, HH D = some (.lst (qs.map V.ref)) ∧ Evs G0 qs (((es.take j).filter fun e => decide (e.tick ≤ tk)).map Evt.v) ∧ Go (fun _ => False) H0 B G0 HH)
      ⟨[], upd_same, Evs.nil _, g.lay _ hD⟩ (fun j HH _ ⟨_, _, _, g⟩ => SqL.of (g.inn _ _ hr0)) ?_ ?_
    · rintro j x HH hx ⟨qs, h1, h2, g⟩
      obtain ⟨q1, e, rfl, hq, he, hqx⟩ := evs_at hev hx
      have hj := (List.getElem?_eq_some_iff.mp he).1
      have tk' : (es.take (j + 1)).filter (fun e => decide (e.tick ≤ tk)) = (es.take j).filter (fun e => decide (e.tick ≤ tk)) ++ [e].filter fun e => decide (e.tick ≤ tk) := by
        rw [take_snoc he, List.filter_append]
      refine ⟨rfl, ?_⟩
      refine ⟨_, rfl, q1, _, _, _, rfl, rfl, SqT.of (g.inn _ _ hqx), at_of (j := 0) rfl (v_tick e), _, rfl, _, _, rfl, rfl, _, rfl, ?_⟩
      by_cases c : e.tick ≤ tk
      · refine ifT (decide_eq_true c) ?_
        have lq := h2.len
        have lf : ((es.take j).filter fun e => decide (e.tick ≤ tk)).length ≤ j := Nat.le_trans (List.length_filter_le _ _) (by rw [List.length_take]; omega)
        refine ⟨_, rfl, _, h1, mem_lt (by rw [List.length_map]; omega), qs ++ [q1], ?_, ?_, g.turn _ BD ZD⟩
        · rw [upd_same, List.map_append]
          rfl
        · rw [tk', List.filter_cons_of_pos (p := fun e : Evt => decide (e.tick ≤ tk)) (decide_eq_true c), List.filter_nil, List.map_append]
          exact h2.snoc hqx
      · refine ifF (decide_eq_false c) ?_
        refine ⟨qs, h1, ?_, g⟩
        rw [tk', List.filter_cons_of_neg (p := fun e : Evt => decide (e.tick ≤ tk)) (by rw [decide_eq_false c]; exact Bool.false_ne_true), List.filter_nil, List.append_nil]
        exact h2
    · rintro HH ⟨qs, h1, h2, g⟩
      rw [lp, List.take_length] at h2
      have g := g.set BD h1 ZD
      have xD : Ex G0 (upd G0 D (.lst (qs.map V.ref))) := Ex.new ZD
      have lf : (es.filter fun e => decide (e.tick ≤ tk)).length ≤ es.length := List.length_filter_le _ _
      refine ⟨x, D, Sta.nil, 0, qs, upTo es tk, _, rfl, g.inn, hS.up xD, Sta.Ok.nil, by unfold upTo; omega, upd_same, h2.up xD, fun e he => hok e (List.mem_filter.mp he).1, fun a G H' g2 hb hs2 => ?_⟩
      refine q a G H' (g.then g2) ?_ hs2
      rcases hb with rfl | hb
      · exact Bx
      · exact g.fresh hb
end
end Rt

namespace Rt
open PySem PySem.Spec PyProof.Rows L2 RZ TL LamX
section
variable {P : Program} {w : World} {K : PySem.W.Frag} {mg : Str → Option Value} {base : Heap}
abbrev s_begin : Stmt := topS 15
theorem sc_begin : FnScope ["_law_script"] ["_law_script"] (defScope s_begin) := ⟨rfl, rfl, rfl, by decide +kernel, rfl, by decide +kernel, by decide +kernel⟩
def spBegin (K : PySem.W.Frag) : Sp := fun vs H Q _ => ∃ (a : Addr) (ns : List Int) (H0 : Hp), vs = [.ref a] ∧ SqL K H a (ns.map V.int) ∧ Ex H0 H ∧
  ∀ (d : Addr) (H0' H' : Hp), Go (fun _ => False) H0 H H0' H' → Dr H0' H' d → H d = none → Q (.ref d) H'
theorem ok_begin {f : Addr} {fd : FuncData} (F : Fun K "_law_begin" "_law_begin" s_begin f fd) (m_list : mg "list" = none) : FnOk P w K mg base CX0 1 f fd ["_law_script"] (spBegin K) := by
  refine F.ok sc_begin (fun vs H Q E h => ?_) (fun cdv A outer s H vs Q E hr h => ?_)
  · obtain ⟨a, ns, H0, rfl, _⟩ := h
    rfl
  · obtain ⟨a, ns, H0, rfl, hS, e0, q⟩ := h
    refine ⟨_, (pss_one (ps_ret (pe_lst (pa_cons (pe_callTy call_list_of (by rfl) m_list bt_list (pa_cons (pe_slice sl_list (pv 0) po_none (po_some pe_int)) pa_nil)) (pa_cons pe_int (pa_cons pe_int (pa_cons pe_int (pa_cons pe_int pa_nil)))))))), ?_⟩
    obtain ⟨ms, hms⟩ : ∃ ms : List Int, cutV (ns.map V.int) none (some 63) = ms.map V.int := ⟨_, by unfold cutV; rw [← List.map_drop, ← List.map_take]⟩
    refine ⟨.ref a, rfl, 63, rfl, a, _, rfl, hS, fun c hc => ?_⟩
    refine ⟨c, _, rfl, .inl (SqL.of upd_same), fun l hl => ?_⟩
    rw [hms] at hl ⊢
    refine ⟨(by show 5 ≤ sizeLine; decide), fun d hd => ?_⟩
    have g0 := Go.refl (m := fun _ => False) e0
    have g1 := g0.lay (.lst (ms.map V.int)) hc
    have g2 := g1.put (.lst (ms.map V.int)) hl
    have g3 := g2.lay (.lst [.ref l, .int 0, .int 0, .int 1, .int 0]) hd
    have nH : H d = none := g2.fresh hd
    exact q d _ _ g3 ⟨⟨l, ms, 0, 0, 1, 0, upd_same, upd_same, by decide, by decide, by decide, by decide⟩, g2.fresh0 hd⟩ nH
abbrev s_pick : Stmt := topS 16
theorem sc_pick : FnScope ["_law_draw", "_law_many", "_law_cell", "_law_got"] ["_law_draw", "_law_many"] (defScope s_pick) := ⟨rfl, rfl, rfl, by decide +kernel, rfl, by decide +kernel, by decide +kernel⟩
def spPick : Sp := fun vs H Q _ => ∃ (d : Addr) (m : Int) (H0 : Hp), vs = [.ref d, .int m] ∧ 0 < m ∧ m ≤ 1000000000 ∧ Ex H0 H ∧ Dr H0 H d ∧
  ∀ (r : Int) (H' : Hp), 0 ≤ r → r < m → Go (· = d) H0 H H0 H' → Dr H0 H' d → Q (.int r) H'
theorem ok_pick {f : Addr} {fd : FuncData} (F : Fun K "_law_pick" "_law_pick" s_pick f fd) (m_len : mg "len" = none) : FnOk P w K mg base CX0 1 f fd ["_law_draw", "_law_many"] spPick := by
  refine F.ok sc_pick (fun vs H Q E h => ?_) (fun cdv A outer s H vs Q E hr h => ?_)
  · obtain ⟨d, m, H0, rfl, _⟩ := h
    rfl
  · obtain ⟨d, m, H0, rfl, m0, m1, e0, ⟨⟨a, ns, i, j, k, l, hd, ha, hi, hj, hk0, hk⟩, out⟩, q⟩ := h
    refine ⟨_, (C8.pss_cut (ps_if (PW.pt (pw_and (pt_cmpR op_lt (pe_ix ix_list (pv 0) pe_int (fun _ _ => rfl)) (pv 1) (nomark _)) (pw_and1 (pt_cmpR op_lt (pe_ix ix_list (pv 0) pe_int (fun _ _ => rfl)) (pe_callB call_len_seq (by rfl) m_len PySem.boot_len (pa_cons (pe_ix ix_list (pv 0) pe_int (fun _ _ => rfl)) pa_nil)) (nomark _))))) (pss_cons (ps_set (i := 2) sc_pick.nd rfl (Or.inl rfl) (pe_ix ix_list (pe_ix ix_list (pv 0) pe_int (fun _ _ => rfl)) (pe_ix ix_list (pv 0) pe_int (fun _ _ => rfl)) (fun _ _ => rfl)))
      (pss_cons (ps_asg (pe_op op_add (pe_ix ix_list (pv 0) pe_int (fun _ _ => rfl)) pe_int) (pg_sub (pv 0) pe_int set_list))
      (pss_cons (ps_asg pe_int (pg_sub (pv 0) pe_int set_list))
      (pss_one (ps_if (pt_cmpR op_ge (pv 2) (pe_op op_pow pe_int pe_int) (nomark _)) (pss_one (ps_asg (pv 2) (pg_sub (pv 0) pe_int set_list))) (pss_one (ps_asg (pe_op op_modN (pe_op op_add (pe_ix ix_list (pv 0) pe_int (fun _ _ => rfl)) (pv 2)) pe_int) (pg_sub (pv 0) pe_int set_list)))))))) pss_nil)
      (pss_cons (ps_if (pt_cmpR op_ge (pe_ix ix_list (pv 0) pe_int (fun _ _ => rfl)) (pv 1) (nomark _)) (pss_cons (ps_set (i := 3) sc_pick.nd rfl (Or.inl rfl) (pe_op op_modN (pe_ix ix_list (pv 0) pe_int (fun _ _ => rfl)) (pv 1)))
      (pss_cons (ps_asg (pe_op op_fdivN (pe_ix ix_list (pv 0) pe_int (fun _ _ => rfl)) (pv 1)) (pg_sub (pv 0) pe_int set_list))
      (pss_one (ps_ret (pv 3))))) pss_nil)
      (pss_cons (ps_asg (pe_op op_add (pe_ix ix_list (pv 0) pe_int (fun _ _ => rfl)) pe_int) (pg_sub (pv 0) pe_int set_list))
      (pss_cons (ps_asg (pe_op op_modN (pe_op op_add (pe_op op_add (pe_op op_pow (pe_ix ix_list (pv 0) pe_int (fun _ _ => rfl)) pe_int) (pe_op op_mul pe_int (pe_ix ix_list (pv 0) pe_int (fun _ _ => rfl)))) pe_int) pe_int) (pg_sub (pv 0) pe_int set_list))
      (pss_one (ps_ret (pe_op op_modN (pe_op op_fdivN (pe_ix ix_list (pv 0) pe_int (fun _ _ => rfl)) pe_int) (pv 1)))))))), ?_⟩
    have hA : H a = some (.lst (ns.map V.int)) := e0 _ _ ha
    have nda : a ≠ d := fun z => by rw [z, out] at ha; cases ha
    refine ⟨fun σ H' => ∃ (i j k : Int) (v : Option V), σ = [some (.ref d), some (.int m), v, none] ∧ H' d = some (.lst [.ref a, .int i, .int j, .int k, .int l]) ∧ 0 ≤ i ∧ 0 ≤ j ∧ 0 ≤ k ∧ k < 2000000000 ∧ Go (· = d) H0 H H0 H', ?_, ?_⟩
    · -- if draw[2] < many and draw[1] < len(draw[0])
      refine ⟨_, rfl, d, _, 2, _, rfl, rfl, SqL.of hd, at_of (j := 2) rfl rfl, _, rfl, _, _, rfl, rfl, _, rfl, ifD (fun c => ?_) (fun c => ?_)⟩
      · refine ⟨_, rfl, d, _, 1, _, rfl, rfl, SqL.of hd, at_of (j := 1) rfl rfl, _, rfl, d, _, 0, _, rfl, rfl, SqL.of hd, at_of (j := 0) rfl rfl, a, _, rfl, .inl (SqL.of hA), _, _, rfl, rfl, _, rfl, ?_⟩
        rw [List.length_map]
        refine ifD (fun c2 => ?_) (fun c2 => ?_)
        · obtain ⟨n, rfl⟩ : ∃ n : Nat, i = (n : Int) := ⟨i.toNat, by omega⟩
          have hn : n < ns.length := by omega
          have g0 := Go.refl (m := (· = d)) e0
          -- cell = draw[0][draw[1]]
          refine ⟨_, rfl, d, _, 0, _, rfl, rfl, SqL.of hd, at_of (j := 0) rfl rfl, _, rfl, d, _, 1, _, rfl, rfl, SqL.of hd, at_of (j := 1) rfl rfl, a, _, _, _, rfl, rfl, SqL.of hA, at_of (j := n) rfl (map_int (List.getElem?_eq_getElem hn)), ?_⟩
          -- draw[1] = draw[1] + 1
          refine ⟨_, rfl, d, _, 1, _, rfl, rfl, SqL.of hd, at_of (j := 1) rfl rfl, _, _, rfl, rfl, _, rfl, _, _, _, 1, rfl, rfl, hd, rfl, ?_⟩
          -- draw[2] = 0
          refine ⟨_, rfl, _, _, _, 2, rfl, rfl, upd_same, rfl, ?_⟩
          -- if cell >= 10 ** 18
          refine ⟨_, rfl, _, _, rfl, rfl, ⟨by decide, by decide, by decide⟩, _, _, rfl, rfl, _, rfl, ifD (fun c3 => ?_) (fun c3 => ?_)⟩
          · refine ⟨_, rfl, _, rfl, _, _, _, 2, rfl, rfl, upd_same, rfl, ?_⟩
            have c4 : (10 : Int) ^ (18 : Int).toNat ≤ ns[n] := c3
            exact ⟨_, ns[n], k, _, rfl, upd_same, by omega, Int.le_trans (by decide) c4, hk0, hk, ((g0.turnM _ rfl out).turnM _ rfl out).turnM _ rfl out⟩
          · refine ⟨_, rfl, d, _, 3, _, rfl, rfl, SqL.of upd_same, at_of (j := 3) rfl rfl, _, rfl, _, _, rfl, rfl, _, _, rfl, rfl, (by show (1000000007 : Int) ≠ 0; decide), _, rfl, _, _, _, 3, rfl, rfl, upd_same, rfl, ?_⟩
            have f0 := Int.fmod_nonneg_of_pos (k + ns[n]) (show (0 : Int) < 1000000007 by decide)
            have f1 := Int.fmod_lt_of_pos (k + ns[n]) (show (0 : Int) < 1000000007 by decide)
            exact ⟨_, 0, _, _, rfl, upd_same, by omega, by decide, f0, by omega, ((g0.turnM _ rfl out).turnM _ rfl out).turnM _ rfl out⟩
        · exact ⟨i, j, k, none, rfl, hd, hi, hj, hk0, hk, Go.refl e0⟩
      · exact ⟨i, j, k, none, rfl, hd, hi, hj, hk0, hk, Go.refl e0⟩
    · rintro σ' H' ⟨i, j, k, v, rfl, hd, hi, hj, hk0, hk, g⟩
      -- if draw[2] >= many
      refine ⟨_, rfl, d, _, 2, _, rfl, rfl, SqL.of hd, at_of (j := 2) rfl rfl, _, rfl, _, _, rfl, rfl, _, rfl, ifD (fun c => ?_) (fun c => ?_)⟩
      · refine ⟨_, rfl, d, _, 2, _, rfl, rfl, SqL.of hd, at_of (j := 2) rfl rfl, _, rfl, _, _, rfl, rfl, (by omega : m ≠ 0), ?_⟩
        refine ⟨_, rfl, d, _, 2, _, rfl, rfl, SqL.of hd, at_of (j := 2) rfl rfl, _, rfl, _, _, rfl, rfl, ⟨by omega, by omega⟩, _, rfl, _, _, _, 2, rfl, rfl, hd, rfl, ?_⟩
        have f0 := Int.fmod_nonneg_of_pos j m0
        have f1 := Int.fmod_lt_of_pos j m0
        have f2 : 0 ≤ j.fdiv m := Int.fdiv_nonneg hj (by omega)
        exact ⟨_, rfl, q _ _ f0 f1 (g.turnM _ rfl out) ⟨⟨a, ns, i, _, k, l, upd_same, ha, hi, f2, hk0, hk⟩, out⟩⟩
      · refine ⟨_, rfl, d, _, 4, _, rfl, rfl, SqL.of hd, at_of (j := 4) rfl rfl, _, _, rfl, rfl, _, rfl, _, _, _, 4, rfl, rfl, hd, rfl, ?_⟩
        refine ⟨_, rfl, d, _, 3, _, rfl, rfl, SqL.of upd_same, at_of (j := 3) rfl rfl, _, _, rfl, rfl, ⟨by decide, by decide, by omega⟩, _, rfl, d, _, 4, _, rfl, rfl, SqL.of upd_same, at_of (j := 4) rfl rfl, _, _, rfl, rfl, .inl ⟨by decide, by decide⟩, _, _, rfl, rfl, _, _, rfl, rfl, _, _, rfl, rfl, (by show (1000000007 : Int) ≠ 0; decide), _, rfl, _, _, _, 3, rfl, rfl, upd_same, rfl, ?_⟩
        have f0 := Int.fmod_nonneg_of_pos (k ^ Int.toNat 3 + 40503 * (l + 1) + 17) (show (0 : Int) < 1000000007 by decide)
        have f1 := Int.fmod_lt_of_pos (k ^ Int.toNat 3 + 40503 * (l + 1) + 17) (show (0 : Int) < 1000000007 by decide)
        refine ⟨_, rfl, d, _, 3, _, rfl, rfl, SqL.of upd_same, at_of (j := 3) rfl rfl, _, _, rfl, rfl, ⟨by decide, by decide⟩, _, rfl, _, _, rfl, rfl, (by omega : m ≠ 0), ?_⟩
        exact q _ _ (Int.fmod_nonneg_of_pos _ m0) (Int.fmod_lt_of_pos _ m0) ((g.turnM _ rfl out).turnM _ rfl out) ⟨⟨a, ns, i, j, _, _, upd_same, ha, hi, hj, f0, by omega⟩, out⟩
abbrev s_one : Stmt := topS 19
theorem sc_one : FnScope ["_law_draw", "_law_some"] ["_law_draw", "_law_some"] (defScope s_one) := ⟨rfl, rfl, rfl, by decide +kernel, rfl, by decide +kernel, by decide +kernel⟩
def spOne : Sp := fun vs H Q _ => ∃ (d p : Addr) (xs : List V) (H0 : Hp), vs = [.ref d, .ref p] ∧ Ex H0 H ∧ Dr H0 H d ∧ H0 p = some (.lst xs) ∧ 0 < xs.length ∧ xs.length ≤ 1000000000 ∧
  ∀ (i : Nat) (v : V) (H' : Hp), xs[i]? = some v → Go (· = d) H0 H H0 H' → Dr H0 H' d → Q v H'
theorem ok_one {f : Addr} {fd : FuncData} (F : Fun K "_law_one" "_law_one" s_one f fd) (D__law_pick : Def P w K mg base "_law_pick" 1 spPick) (m_len : mg "len" = none) : FnOk P w K mg base CX0 2 f fd ["_law_draw", "_law_some"] spOne := by
  refine F.ok sc_one (fun vs H Q E h => ?_) (fun cdv A outer s H vs Q E hr h => ?_)
  · obtain ⟨d, p, xs, H0, rfl, _⟩ := h
    rfl
  · obtain ⟨d, p, xs, H0, rfl, e0, hD, hp, l0, l1, q⟩ := h
    refine ⟨_, (pss_one (ps_ret (pe_ix ix_list (pv 1) (pe_d D__law_pick (hr.mono (by decide)) rfl (pa_cons (pv 0) (pa_cons (pe_callB call_len_seq (by rfl) m_len PySem.boot_len (pa_cons (pv 1) pa_nil)) pa_nil))) (fun _ _ => rfl)))), ?_⟩
    refine ⟨.ref p, rfl, .ref d, rfl, .ref p, rfl, p, xs, rfl, .inl (SqL.of (e0 _ _ hp)), d, (xs.length : Int), H0, rfl, by omega, by omega, e0, hD, fun r H' r0 r1 g hD' => ?_⟩
    obtain ⟨j, rfl⟩ : ∃ j : Nat, r = (j : Int) := ⟨r.toNat, by omega⟩
    have hj : j < xs.length := by omega
    exact ⟨p, xs, (j : Int), _, rfl, rfl, SqL.of (g.inn _ _ hp), at_of (j := j) rfl (List.getElem?_eq_getElem hj), q j _ _ (List.getElem?_eq_getElem hj) g hD'⟩
abbrev s_channel : Stmt := topS 17
theorem sc_channel : FnScope ["_law_draw"] ["_law_draw"] (defScope s_channel) := ⟨rfl, rfl, rfl, by decide +kernel, rfl, by decide +kernel, by decide +kernel⟩
theorem ok_channel {f : Addr} {fd : FuncData} (F : Fun K "_law_channel" "_law_channel" s_channel f fd) (D__law_pick : Def P w K mg base "_law_pick" 1 spPick) : FnOk P w K mg base CX0 2 f fd ["_law_draw"] (spInts 0 15) := by
  refine F.ok sc_channel (fun vs H Q E h => ?_) (fun cdv A outer s H vs Q E hr h => ?_)
  · obtain ⟨d, H0, rfl, _⟩ := h
    rfl
  · obtain ⟨d, H0, rfl, e0, hD, q⟩ := h
    refine ⟨_, (pss_one (ps_ret (pe_ix ix_tup (pe_tup (pa_cons (pe_d D__law_pick (hr.mono (by decide)) rfl (pa_cons (pv 0) (pa_cons pe_int pa_nil))) (pa_cons (pe_d D__law_pick (hr.mono (by decide)) rfl (pa_cons (pv 0) (pa_cons pe_int pa_nil))) pa_nil))) (pe_d D__law_pick (hr.mono (by decide)) rfl (pa_cons (pv 0) (pa_cons pe_int pa_nil))) (fun _ _ => rfl)))), ?_⟩
    have S := Sd.here e0 hD
    refine ⟨_, rfl, d, 3, _, rfl, by decide, by decide, S.ex, S.dr, fun x H x0 x1 g hD => ?_⟩
    have S := S.call g hD
    refine ⟨_, rfl, d, 16, _, rfl, by decide, by decide, S.ex, S.dr, fun y H y0 y1 g hD => ?_⟩
    have S := S.call g hD
    refine ⟨(by show 2 ≤ sizeLine; decide), fun t ht => ?_⟩
    have S := S.put (.tup [.int x, .int y]) ht
    refine ⟨_, rfl, d, 2, _, rfl, by decide, by decide, S.ex, S.dr, fun u H u0 u1 g hD => ?_⟩
    have S := S.call g hD
    have htt := g.up t _ upd_same
    obtain ⟨r, hr', r0, r1⟩ := get_int [.int x, .int y] 0 15 (fun v hv => by
      simp only [List.mem_cons, List.mem_nil_iff, or_false] at hv
      rcases hv with rfl | rfl
      · exact ⟨x, rfl, x0, by omega⟩
      · exact ⟨y, rfl, y0, by omega⟩) u u0 u1
    exact ⟨t, _, _, _, rfl, rfl, SqT.of (S.ex _ _ htt), at_of (j := u.toNat) (by omega) hr', q r _ _ r0 r1 S.go S.dr⟩
abbrev s_key : Stmt := topS 18
theorem sc_key : FnScope ["_law_draw"] ["_law_draw"] (defScope s_key) := ⟨rfl, rfl, rfl, by decide +kernel, rfl, by decide +kernel, by decide +kernel⟩
theorem ok_key {f : Addr} {fd : FuncData} (F : Fun K "_law_key" "_law_key" s_key f fd) (D__law_pick : Def P w K mg base "_law_pick" 1 spPick) : FnOk P w K mg base CX0 2 f fd ["_law_draw"] (spInts 0 127) := by
  refine F.ok sc_key (fun vs H Q E h => ?_) (fun cdv A outer s H vs Q E hr h => ?_)
  · obtain ⟨d, H0, rfl, _⟩ := h
    rfl
  · obtain ⟨d, H0, rfl, e0, hD, q⟩ := h
    refine ⟨_, (pss_one (ps_ret (pe_ix ix_tup (pe_tup (pa_cons (pe_op op_add pe_int (pe_d D__law_pick (hr.mono (by decide)) rfl (pa_cons (pv 0) (pa_cons pe_int pa_nil)))) (pa_cons (pe_d D__law_pick (hr.mono (by decide)) rfl (pa_cons (pv 0) (pa_cons pe_int pa_nil))) pa_nil))) (pe_d D__law_pick (hr.mono (by decide)) rfl (pa_cons (pv 0) (pa_cons pe_int pa_nil))) (fun _ _ => rfl)))), ?_⟩
    have S := Sd.here e0 hD
    refine ⟨_, rfl, d, 3, _, rfl, by decide, by decide, S.ex, S.dr, fun x H x0 x1 g hD => ?_⟩
    have S := S.call g hD
    refine ⟨_, _, rfl, rfl, _, rfl, d, 128, _, rfl, by decide, by decide, S.ex, S.dr, fun y H y0 y1 g hD => ?_⟩
    have S := S.call g hD
    refine ⟨(by show 2 ≤ sizeLine; decide), fun t ht => ?_⟩
    have S := S.put (.tup [.int (60 + x), .int y]) ht
    refine ⟨_, rfl, d, 2, _, rfl, by decide, by decide, S.ex, S.dr, fun u H u0 u1 g hD => ?_⟩
    have S := S.call g hD
    have htt := g.up t _ upd_same
    obtain ⟨r, hr', r0, r1⟩ := get_int [.int (60 + x), .int y] 0 127 (fun v hv => by
      simp only [List.mem_cons, List.mem_nil_iff, or_false] at hv
      rcases hv with rfl | rfl
      · exact ⟨60 + x, rfl, by omega, by omega⟩
      · exact ⟨y, rfl, y0, by omega⟩) u u0 u1
    exact ⟨t, _, _, _, rfl, rfl, SqT.of (S.ex _ _ htt), at_of (j := u.toNat) (by omega) hr', q r _ _ r0 r1 S.go S.dr⟩
abbrev s_word : Stmt := topS 20
theorem sc_word : FnScope ["_law_draw", "_law_most", "_law_signs", "_law_k"] ["_law_draw", "_law_most"] (defScope s_word) := ⟨rfl, rfl, rfl, by decide +kernel, rfl, by decide +kernel, by decide +kernel⟩
/-- a text drawn of the signs -/
def spWord : Sp := fun vs H Q _ => ∃ (d : Addr) (m : Nat) (H0 : Hp), vs = [.ref d, .int (m : Int)] ∧ m ≤ 100 ∧ Ex H0 H ∧ Dr H0 H d ∧
  ∀ (s : Str) (G0 H' : Hp), s.length ≤ m → (∀ c ∈ s.cps.toList, c ∈ signsS.cps.toList) → Go (· = d) H0 H G0 H' → Dr G0 H' d → Q (.str s) H'
theorem ok_word {f : Addr} {fd : FuncData} (F : Fun K "_law_word" "_law_word" s_word f fd) (D__law_pick : Def P w K mg base "_law_pick" 1 spPick) (m_range : mg "range" = none) : FnOk P w K mg base CX0 2 f fd ["_law_draw", "_law_most"] spWord := by
  refine F.ok sc_word (fun vs H Q E h => ?_) (fun cdv A outer s B vs Q E hr h => ?_)
  · obtain ⟨d, m, H0, rfl, _⟩ := h
    rfl
  · obtain ⟨d, m, H0, rfl, hm, e0, hD, q⟩ := h
    refine ⟨_, (pss_cons (ps_set (i := 2) sc_word.nd rfl (Or.inr rfl) pe_str)
      (pss_cons (ps_if (pt_cmpR op_eq (pe_d D__law_pick (hr.mono (by decide)) rfl (pa_cons (pv 0) (pa_cons pe_int pa_nil))) pe_int (nomark _)) (pss_one (ps_ret (pe_op op_repS (pe_ix ix_str (pv 2) (pe_d D__law_pick (hr.mono (by decide)) rfl (pa_cons (pv 0) (pa_cons pe_int pa_nil))) (fun _ _ => rfl)) (pe_d D__law_pick (hr.mono (by decide)) rfl (pa_cons (pv 0) (pa_cons (pe_op op_add (pv 1) pe_int) pa_nil)))))) pss_nil)
      (pss_one (ps_ret (pe_join pe_str (pe_lc (own := [("_law_k", 3)]) (g := gName 3) (tt := tYes) rfl sc_word.nd (pi_range1 rfl m_range (pa_cons (pe_d D__law_pick (hr.mono (by decide)) rfl (pa_cons (pv 0) (pa_cons (pe_op op_add (pv 1) pe_int) pa_nil))) pa_nil)) (blkOk_by (N := ["_law_draw", "_law_most", "_law_signs", "_law_k"]) (sc := defScope s_word) (by decide +kernel)) (fun _ _ _ _ _ => pg_name (i := 3) sc_word.nd rfl (Or.inl rfl)) (fun _ _ _ _ _ => pts_nil) (fun _ _ _ _ _ => (pe_ix ix_str (pv 2) (pe_d D__law_pick (hr.mono (by decide)) rfl (pa_cons (pv 0) (pa_cons pe_int pa_nil))) (fun _ _ => rfl))))))))), ?_⟩
    have S := Sd.here e0 hD
    have sgn : ∀ r : Int, 0 ≤ r → r < 37 → ∃ c, signsS.cps.toList[r.toNat]? = some c := fun r r0 r1 => ⟨_, List.getElem?_eq_getElem (by show r.toNat < 37; omega)⟩
    refine ⟨_, rfl, d, 2, _, rfl, by decide, by decide, S.ex, S.dr, fun x H x0 x1 g hD => ?_⟩
    have S := S.call g hD
    refine ⟨rfl, _, rfl, ifD (fun c => ?_) (fun c => ?_)⟩
    · refine ⟨_, rfl, _, rfl, d, 37, _, rfl, by decide, by decide, S.ex, S.dr, fun y H y0 y1 g hD => ?_⟩
      have S := S.call g hD
      obtain ⟨c, hc⟩ := sgn y y0 y1
      refine ⟨signsS, y, c, rfl, rfl, mem_sz (by show 37 ≤ _; decide), at_n (j := y.toNat) (by omega) hc, ?_⟩
      refine ⟨_, rfl, _, rfl, _, _, rfl, rfl, d, _, _, rfl, by omega, by omega, S.ex, S.dr, fun n H n0 n1 g hD => ?_⟩
      have S := S.call g hD
      obtain ⟨n, rfl⟩ : ∃ k : Nat, n = (k : Int) := ⟨n.toNat, by omega⟩
      refine ⟨_, n, rfl, rfl, (by show 1 ≤ 1000; decide), by omega, fun w hw hc2 => q w _ _ ?_ (fun c' h => ?_) S.go S.dr⟩
      · have : w.length = 1 * n := hw
        omega
      · have : c' ∈ [c] := hc2 c' h
        rw [List.mem_singleton.mp this]
        exact List.mem_of_getElem? hc
    · refine ⟨⟨_, rfl⟩, _, rfl, _, rfl, _, _, rfl, rfl, d, _, _, rfl, by omega, by omega, S.ex, S.dr, fun n H n0 n1 g hD => ?_⟩
      have S := S.call g hD
      obtain ⟨n, rfl⟩ : ∃ k : Nat, n = (k : Int) := ⟨n.toNat, by omega⟩
      refine ⟨_, rfl, by omega, by omega, fun D hDn => ?_⟩
      have ndD := S.dr.ne hDn
      have bD := S.go.fresh hDn
      refine lc_range (lo := 0) (n := n) (fun i H' => ∃ (ys : List Str) (G0 : Hp), H' D = some (.lst (ys.map V.str)) ∧ ys.length = i ∧ (∀ y ∈ ys, ∃ c ∈ signsS.cps.toList, y = ⟨#[c]⟩) ∧ Sd d H0 B G0 H' ∧ G0 D = none) ⟨[], _, upd_same, rfl, (fun y h => nomatch h), S.lay _ hDn, S.ex.free hDn⟩ ?_ ?_
      · rintro i H' hi ⟨ys, G0, h1, h2, h3, S1, h4⟩
        refine ⟨rfl, ?_⟩
        refine ⟨_, rfl, _, rfl, d, 37, _, rfl, by decide, by decide, S1.ex, S1.dr, fun r H2 r0 r1 g hD2 => ?_⟩
        have S2 := S1.call g hD2
        obtain ⟨c, hc⟩ := sgn r r0 r1
        have h5 := g.keep D _ h1 (fun z => ndD z.symm)
        refine ⟨signsS, r, c, rfl, rfl, mem_sz (by show 37 ≤ _; decide), at_n (j := r.toNat) (by omega) hc, _, h5, mem_lt (by rw [List.length_map]; omega), ys ++ [⟨#[c]⟩], _, ?_, by rw [List.length_append, h2]; rfl, fun y hy => ?_, S2.turn _ bD ?_ ndD, ?_⟩
        · rw [upd_same, List.map_append]
          rfl
        · rcases List.mem_append.mp hy with h | h
          · exact h3 y h
          · exact ⟨c, List.mem_of_getElem? hc, List.mem_singleton.mp h⟩
        · exact g.new D (by rw [h1]; simp) h4
        · exact g.new D (by rw [h1]; simp) h4
      · rintro H' ⟨ys, G0, h1, h2, h3, S1, h4⟩
        obtain ⟨j1, j2⟩ := join_signs ys _ h3
        refine ⟨_, D, ys, rfl, rfl, .inl (SqL.of h1), ?_, q _ _ _ (by omega) j2 S1.go S1.dr⟩
        rw [sum_signs ys _ h3]
        show ys.length + ys.length * 0 ≤ 16777216
        omega
abbrev s_thing : Stmt := topS 21
theorem sc_thing : FnScope ["_law_draw", "_law_kind", "_law_channel_here"] ["_law_draw"] (defScope s_thing) := ⟨rfl, rfl, rfl, by decide +kernel, rfl, by decide +kernel, by decide +kernel⟩
theorem thing_on {c k f : Int} (hc : 0 ≤ c ∧ c ≤ 15) (hk : 0 ≤ k ∧ k ≤ 127) (hf : 1 ≤ f ∧ f ≤ 127) : thingOk [.str "on", .int c, .int k, .int f] = true := by
  rw [thing_word (by decide)]
  show (withinV (.int c) 0 15 && (withinV (.int k) 0 127 && (withinV (.int f) 1 127 && true))) = true
  rw [win hc, win hk, win hf]
  rfl
theorem thing_off {c k f : Int} (hc : 0 ≤ c ∧ c ≤ 15) (hk : 0 ≤ k ∧ k ≤ 127) (hf : 0 ≤ f ∧ f ≤ 127) : thingOk [.str "off", .int c, .int k, .int f] = true := by
  rw [thing_word (by decide)]
  show (withinV (.int c) 0 15 && (withinV (.int k) 0 127 && (withinV (.int f) 0 127 && true))) = true
  rw [win hc, win hk, win hf]
  rfl
theorem thing_knob {c k f : Int} (hc : 0 ≤ c ∧ c ≤ 15) (hk : 0 ≤ k ∧ k ≤ 127) (hf : 0 ≤ f ∧ f ≤ 127) : thingOk [.str "knob", .int c, .int k, .int f] = true := by
  rw [thing_word (by decide)]
  show (withinV (.int c) 0 15 && (withinV (.int k) 0 127 && (withinV (.int f) 0 127 && true))) = true
  rw [win hc, win hk, win hf]
  rfl
theorem thing_voice {c k : Int} (hc : 0 ≤ c ∧ c ≤ 15) (hk : 0 ≤ k ∧ k ≤ 127) : thingOk [.str "voice", .int c, .int k] = true := by
  rw [thing_word (by decide)]
  show (withinV (.int c) 0 15 && (withinV (.int k) 0 127 && true)) = true
  rw [win hc, win hk]
  rfl
theorem thing_text {s : Str} (h : s.length ≤ 12) (hc : ∀ c ∈ s.cps.toList, c ∈ signsS.cps.toList) : thingOk [.str "mark", .str s] = true := by
  rw [thing_mark]
  show (decide (s.length ≤ 12) && s.cps.toList.all _) = true
  rw [decide_eq_true h, Bool.true_and]
  exact List.all_eq_true.mpr fun c h => decide_eq_true (hc c h)
/-- a good thing drawn: a new tuple -/
def spThing : Sp := fun vs H Q _ => ∃ (d : Addr) (H0 : Hp), vs = [.ref d] ∧ Ex H0 H ∧ Dr H0 H d ∧
  ∀ (t : Addr) (xs : List V) (G0 H' : Hp), thingOk xs = true → (∀ x ∈ xs, Scal x) → xs.length ≤ 4 → Go (· = d) H0 H G0 H' → Dr G0 H' d → H t = none → G0 t = some (.tup xs) → Q (.ref t) H'
theorem ok_thing {f : Addr} {fd : FuncData} (F : Fun K "_law_thing" "_law_thing" s_thing f fd) (D__law_pick : Def P w K mg base "_law_pick" 1 spPick) (D__law_channel : Def P w K mg base "_law_channel" 2 (spInts 0 15)) (D__law_key : Def P w K mg base "_law_key" 2 (spInts 0 127))
    (D__law_word : Def P w K mg base "_law_word" 2 spWord) : FnOk P w K mg base CX0 3 f fd ["_law_draw"] spThing := by
  refine F.ok sc_thing (fun vs H Q E h => ?_) (fun cdv A outer s B vs Q E hr h => ?_)
  · obtain ⟨d, H0, rfl, _⟩ := h
    rfl
  · obtain ⟨d, H0, rfl, e0, hD, q⟩ := h
    refine ⟨_, (pss_cons (ps_set (i := 1) sc_thing.nd rfl (Or.inl rfl) (pe_d D__law_pick (hr.mono (by decide)) rfl (pa_cons (pv 0) (pa_cons pe_int pa_nil))))
      (pss_cons (ps_set (i := 2) sc_thing.nd rfl (Or.inl rfl) (pe_d D__law_channel (hr.mono (by decide)) rfl (pa_cons (pv 0) pa_nil)))
      (pss_cons (ps_if (pt_cmpR op_lt (pv 1) pe_int (nomark _)) (pss_one (ps_ret (pe_tup (pa_cons pe_str (pa_cons (pv 2) (pa_cons (pe_d D__law_key (hr.mono (by decide)) rfl (pa_cons (pv 0) pa_nil)) (pa_cons (pe_op op_add pe_int (pe_d D__law_pick (hr.mono (by decide)) rfl (pa_cons (pv 0) (pa_cons pe_int pa_nil)))) pa_nil))))))) pss_nil)
      (pss_cons (ps_if (pt_cmpR op_lt (pv 1) pe_int (nomark _)) (pss_one (ps_ret (pe_tup (pa_cons pe_str (pa_cons (pv 2) (pa_cons (pe_d D__law_key (hr.mono (by decide)) rfl (pa_cons (pv 0) pa_nil)) (pa_cons (pe_ix ix_tup (pe_tup (pa_cons pe_int (pa_cons (pe_d D__law_pick (hr.mono (by decide)) rfl (pa_cons (pv 0) (pa_cons pe_int pa_nil))) pa_nil))) (pe_d D__law_pick (hr.mono (by decide)) rfl (pa_cons (pv 0) (pa_cons pe_int pa_nil))) (fun _ _ => rfl)) pa_nil))))))) pss_nil)
      (pss_cons (ps_if (pt_cmpR op_lt (pv 1) pe_int (nomark _)) (pss_one (ps_ret (pe_tup (pa_cons pe_str (pa_cons (pv 2) (pa_cons (pe_ix ix_tup (pe_tup (pa_cons (pe_d D__law_pick (hr.mono (by decide)) rfl (pa_cons (pv 0) (pa_cons pe_int pa_nil))) (pa_cons (pe_d D__law_pick (hr.mono (by decide)) rfl (pa_cons (pv 0) (pa_cons pe_int pa_nil))) pa_nil))) (pe_d D__law_pick (hr.mono (by decide)) rfl (pa_cons (pv 0) (pa_cons pe_int pa_nil))) (fun _ _ => rfl)) (pa_cons (pe_d D__law_pick (hr.mono (by decide)) rfl (pa_cons (pv 0) (pa_cons pe_int pa_nil))) pa_nil))))))) pss_nil)
      (pss_cons (ps_if (pt_cmpR op_eq (pv 1) pe_int (nomark _)) (pss_one (ps_ret (pe_tup (pa_cons pe_str (pa_cons (pv 2) (pa_cons (pe_d D__law_pick (hr.mono (by decide)) rfl (pa_cons (pv 0) (pa_cons pe_int pa_nil))) pa_nil)))))) pss_nil)
      (pss_one (ps_ret (pe_tup (pa_cons pe_str (pa_cons (pe_d D__law_word (hr.mono (by decide)) rfl (pa_cons (pv 0) (pa_cons pe_int pa_nil))) pa_nil))))))))))), ?_⟩
    have S := Sd.here e0 hD
    refine ⟨_, rfl, d, 12, _, rfl, by decide, by decide, S.ex, S.dr, fun k H k0 k1 g hD => ?_⟩
    have S := S.call g hD
    refine ⟨_, rfl, d, _, rfl, S.ex, S.dr, fun c G0 H c0 c1 g hD => ?_⟩
    have S := S.call g hD
    have fin : ∀ (G0 H : Hp) (xs : List V), Sd d H0 B G0 H → thingOk xs = true → (∀ x ∈ xs, Scal x) → xs.length ≤ 4 → ∀ t, H t = none → Q (.ref t) (upd H t (.tup xs)) := fun G0 H xs S h1 h2 h3 t ht =>
      q t xs _ _ h1 h2 h3 (S.put _ ht).go (S.put _ ht).dr (S.go.fresh ht) upd_same
    have sI : ∀ z : Int, Scal (.int z) := fun z => .inl ⟨z, rfl⟩
    have sS : ∀ s : Str, s.length ≤ 1000 → Scal (.str s) := fun s h => .inr ⟨s, rfl, h⟩
    refine ⟨_, rfl, _, _, rfl, rfl, _, rfl, ifD (fun h => ?_) (fun h => ?_)⟩
    · refine ⟨_, rfl, _, rfl, d, _, rfl, S.ex, S.dr, fun y G0 H y0 y1 g hD => ?_⟩
      have S := S.call g hD
      refine ⟨_, rfl, d, 127, _, rfl, by decide, by decide, S.ex, S.dr, fun z H z0 z1 g hD => ?_⟩
      have S := S.call g hD
      refine ⟨_, _, rfl, rfl, (by show 4 ≤ sizeLine; decide), fun t ht => ?_⟩
      exact fin _ _ _ S (thing_on ⟨c0, c1⟩ ⟨y0, y1⟩ ⟨by omega, by omega⟩) (by
        intro x hx
        simp only [List.mem_cons, List.mem_nil_iff, or_false] at hx
        rcases hx with rfl | rfl | rfl | rfl
        · exact sS _ (by decide)
        all_goals exact sI _) (by show 4 ≤ 4; decide) t ht
    refine ⟨_, rfl, _, _, rfl, rfl, _, rfl, ifD (fun h => ?_) (fun h => ?_)⟩
    · refine ⟨_, rfl, _, rfl, d, _, rfl, S.ex, S.dr, fun y G0 H y0 y1 g hD => ?_⟩
      have S := S.call g hD
      refine ⟨_, rfl, d, 128, _, rfl, by decide, by decide, S.ex, S.dr, fun z H z0 z1 g hD => ?_⟩
      have S := S.call g hD
      refine ⟨(by show 2 ≤ sizeLine; decide), fun t ht => ?_⟩
      have S := S.put (.tup [.int 64, .int z]) ht
      refine ⟨_, rfl, d, 2, _, rfl, by decide, by decide, S.ex, S.dr, fun u H u0 u1 g hD => ?_⟩
      have S := S.call g hD
      have htt := g.up t _ upd_same
      obtain ⟨r, hr', r0, r1⟩ := get_int [.int 64, .int z] 0 127 (fun v hv => by
        simp only [List.mem_cons, List.mem_nil_iff, or_false] at hv
        rcases hv with rfl | rfl
        · exact ⟨64, rfl, by decide, by decide⟩
        · exact ⟨z, rfl, z0, by omega⟩) u u0 u1
      refine ⟨t, _, _, _, rfl, rfl, SqT.of (S.ex _ _ htt), at_of (j := u.toNat) (by omega) hr', (by show 4 ≤ sizeLine; decide), fun t ht => ?_⟩
      exact fin _ _ _ S (thing_off ⟨c0, c1⟩ ⟨y0, y1⟩ ⟨r0, r1⟩) (by
        intro x hx
        simp only [List.mem_cons, List.mem_nil_iff, or_false] at hx
        rcases hx with rfl | rfl | rfl | rfl
        · exact sS _ (by decide)
        all_goals exact sI _) (by show 4 ≤ 4; decide) t ht
    refine ⟨_, rfl, _, _, rfl, rfl, _, rfl, ifD (fun h => ?_) (fun h => ?_)⟩
    · refine ⟨_, rfl, _, rfl, d, 3, _, rfl, by decide, by decide, S.ex, S.dr, fun y H y0 y1 g hD => ?_⟩
      have S := S.call g hD
      refine ⟨_, rfl, d, 128, _, rfl, by decide, by decide, S.ex, S.dr, fun z H z0 z1 g hD => ?_⟩
      have S := S.call g hD
      refine ⟨(by show 2 ≤ sizeLine; decide), fun t ht => ?_⟩
      have S := S.put (.tup [.int y, .int z]) ht
      refine ⟨_, rfl, d, 2, _, rfl, by decide, by decide, S.ex, S.dr, fun u H u0 u1 g hD => ?_⟩
      have S := S.call g hD
      have htt := g.up t _ upd_same
      obtain ⟨r, hr', r0, r1⟩ := get_int [.int y, .int z] 0 127 (fun v hv => by
        simp only [List.mem_cons, List.mem_nil_iff, or_false] at hv
        rcases hv with rfl | rfl
        · exact ⟨y, rfl, y0, by omega⟩
        · exact ⟨z, rfl, z0, by omega⟩) u u0 u1
      refine ⟨t, _, _, _, rfl, rfl, SqT.of (S.ex _ _ htt), at_of (j := u.toNat) (by omega) hr', _, rfl, d, 128, _, rfl, by decide, by decide, S.ex, S.dr, fun z2 H z20 z21 g hD => ?_⟩
      have S := S.call g hD
      refine ⟨(by show 4 ≤ sizeLine; decide), fun t ht => ?_⟩
      exact fin _ _ _ S (thing_knob ⟨c0, c1⟩ ⟨r0, r1⟩ ⟨z20, by omega⟩) (by
        intro x hx
        simp only [List.mem_cons, List.mem_nil_iff, or_false] at hx
        rcases hx with rfl | rfl | rfl | rfl
        · exact sS _ (by decide)
        all_goals exact sI _) (by show 4 ≤ 4; decide) t ht
    refine ⟨_, rfl, rfl, _, rfl, ifD (fun h => ?_) (fun h => ?_)⟩
    · refine ⟨_, rfl, _, rfl, d, 128, _, rfl, by decide, by decide, S.ex, S.dr, fun z H z0 z1 g hD => ?_⟩
      have S := S.call g hD
      refine ⟨(by show 3 ≤ sizeLine; decide), fun t ht => ?_⟩
      exact fin _ _ _ S (thing_voice ⟨c0, c1⟩ ⟨z0, by omega⟩) (by
        intro x hx
        simp only [List.mem_cons, List.mem_nil_iff, or_false] at hx
        rcases hx with rfl | rfl | rfl
        · exact sS _ (by decide)
        all_goals exact sI _) (by show 3 ≤ 4; decide) t ht
    · refine ⟨_, rfl, d, 12, _, rfl, by decide, S.ex, S.dr, fun s G0 H s1 s2 g hD => ?_⟩
      have S := S.call g hD
      refine ⟨(by show 2 ≤ sizeLine; decide), fun t ht => ?_⟩
      exact fin _ _ _ S (thing_text s1 s2) (by
        intro x hx
        simp only [List.mem_cons, List.mem_nil_iff, or_false] at hx
        rcases hx with rfl | rfl
        · exact sS _ (by decide)
        · exact sS _ (by omega)) (by show 2 ≤ 4; decide) t ht
abbrev s_keen_track : Stmt := topS 22
theorem sc_keen_track : FnScope ["_law_draw", "_law_most", "_law_found", "_law_tick_here", "_law_some", "_law_k", "_law_channel_here", "_law_key_here", "_law_kind"] ["_law_draw", "_law_most"] (defScope s_keen_track) := ⟨rfl, rfl, rfl, by decide +kernel, rfl, by decide +kernel, by decide +kernel⟩
theorem ok_keen_track {f : Addr} {fd : FuncData} (F : Fun K "_law_keen_track" "_law_keen_track" s_keen_track f fd) (D__law_pick : Def P w K mg base "_law_pick" 1 spPick) (D__law_one : Def P w K mg base "_law_one" 2 spOne) (D__law_channel : Def P w K mg base "_law_channel" 2 (spInts 0 15)) (D__law_key : Def P w K mg base "_law_key" 2 (spInts 0 127)) (D__law_thing : Def P w K mg base "_law_thing" 3 spThing) (m_range : mg "range" = none) (m_min : mg "min" = none) : FnOk P w K mg base CX0 4 f fd ["_law_draw", "_law_most"] spKeen := by
  refine F.ok sc_keen_track (fun vs H Q E h => ?_) (fun cdv A outer s B vs Q E hr h => ?_)
  · obtain ⟨d, m, H0, rfl, _⟩ := h
    rfl
  · obtain ⟨d, m, H0, rfl, hm, e0, hD, q⟩ := h
    refine ⟨_, (pss_cons (ps_set (i := 2) sc_keen_track.nd rfl (Or.inl rfl) (pe_lst pa_nil))
      (pss_cons (ps_set (i := 3) sc_keen_track.nd rfl (Or.inl rfl) pe_int)
      (pss_cons (ps_setLc (i := 4) (own := [("_law_k", 5)]) (g := gName 5) (tt := tYes) rfl sc_keen_track.nd rfl rfl (sw_true rfl rfl rfl (by decide +kernel)) (pi_range1 rfl m_range (pa_cons (pe_op op_add pe_int (pe_d D__law_pick (hr.mono (by decide)) rfl (pa_cons (pv 0) (pa_cons pe_int pa_nil)))) pa_nil)) (blkOk_by (N := ["_law_draw", "_law_most", "_law_found", "_law_tick_here", "_law_some", "_law_k", "_law_channel_here", "_law_key_here", "_law_kind"]) (sc := defScope s_keen_track) (by decide +kernel)) (fun _ _ _ _ _ => pg_name (i := 5) sc_keen_track.nd rfl (Or.inl rfl)) (fun _ _ _ _ _ => pts_nil) (fun _ _ _ _ _ => (pe_tup (pa_cons (pe_d D__law_channel (hr.mono (by decide)) rfl (pa_cons (pv 0) pa_nil)) (pa_cons (pe_d D__law_key (hr.mono (by decide)) rfl (pa_cons (pv 0) pa_nil)) pa_nil)))))
      (pss_cons (ps_for PassesOwn.never rfl (pi_range1 rfl m_range (pa_cons (pe_d D__law_pick (hr.mono (by decide)) rfl (pa_cons (pv 0) (pa_cons (pe_op op_add (pv 1) pe_int) pa_nil))) pa_nil)) (pg_name (i := 5) sc_keen_track.nd rfl (Or.inl rfl)) (pss_cons (ps_set (i := 3) sc_keen_track.nd rfl (Or.inl rfl) (pe_callB (call_min2 rfl) (by rfl) m_min bt_min (pa_cons pe_int (pa_cons (pe_op op_add (pv 3) (pe_d D__law_pick (hr.mono (by decide)) rfl (pa_cons (pv 0) (pa_cons (pe_ix ix_tup (pe_tup (pa_cons pe_int (pa_cons pe_int (pa_cons pe_int (pa_cons pe_int pa_nil))))) (pe_d D__law_pick (hr.mono (by decide)) rfl (pa_cons (pv 0) (pa_cons pe_int pa_nil))) (fun _ _ => rfl)) pa_nil)))) pa_nil))))
      (pss_cons (ps_asg (pe_d D__law_one (hr.mono (by decide)) rfl (pa_cons (pv 0) (pa_cons (pv 4) pa_nil))) (pg_tup rfl (pgs_cons (pg_name (i := 6) sc_keen_track.nd rfl (Or.inl rfl)) (pgs_cons (pg_name (i := 7) sc_keen_track.nd rfl (Or.inl rfl)) pgs_nil))))
      (pss_cons (ps_set (i := 8) sc_keen_track.nd rfl (Or.inl rfl) (pe_d D__law_pick (hr.mono (by decide)) rfl (pa_cons (pv 0) (pa_cons pe_int pa_nil))))
      (pss_one (ps_if (pt_cmpR op_lt (pv 8) pe_int (nomark _)) (pss_one (ps_expr (pe_bm PySem.F.plainAttrs_list PySem.F.slot_list_append PySem.F.type_list_append mt_append (pv 2) (pa_cons (pe_tup (pa_cons (pv 3) (pa_cons pe_str (pa_cons (pv 6) (pa_cons (pv 7) (pa_cons (pe_op op_add pe_int (pe_d D__law_pick (hr.mono (by decide)) rfl (pa_cons (pv 0) (pa_cons pe_int pa_nil)))) pa_nil)))))) pa_nil)))) (pss_one (ps_if (pt_cmpR op_lt (pv 8) pe_int (nomark _)) (pss_one (ps_expr (pe_bm PySem.F.plainAttrs_list PySem.F.slot_list_append PySem.F.type_list_append mt_append (pv 2) (pa_cons (pe_tup (pa_cons (pv 3) (pa_cons pe_str (pa_cons (pv 6) (pa_cons (pv 7) (pa_cons (pe_ix ix_tup (pe_tup (pa_cons pe_int (pa_cons (pe_d D__law_pick (hr.mono (by decide)) rfl (pa_cons (pv 0) (pa_cons pe_int pa_nil))) pa_nil))) (pe_d D__law_pick (hr.mono (by decide)) rfl (pa_cons (pv 0) (pa_cons pe_int pa_nil))) (fun _ _ => rfl)) pa_nil)))))) pa_nil)))) (pss_one (ps_expr (pe_bm PySem.F.plainAttrs_list PySem.F.slot_list_append PySem.F.type_list_append mt_append (pv 2) (pa_cons (pe_op op_catA (pe_tup (pa_cons (pv 3) pa_nil)) (pe_d D__law_thing (hr.mono (by decide)) rfl (pa_cons (pv 0) pa_nil))) pa_nil))))))))))))
      (pss_one (ps_ret (pv 2))))))), ?_⟩
    have S := Sd.here e0 hD
    -- found = []
    refine ⟨(by show 0 ≤ sizeLine; decide), fun p hp => ?_⟩
    have np := S.dr.ne hp
    have bp := S.go.fresh hp
    have S := S.lay (.lst []) hp
    have h0p : H0 p = none := e0.free hp
    have hpp : upd B p (.lst []) p = some (.lst []) := upd_same
    -- some = [(channel, key) ..]
    refine ⟨_, rfl, d, 3, _, rfl, by decide, by decide, S.ex, S.dr, fun n H n0 n1 g hD => ?_⟩
    have hpp := g.keep p _ hpp (fun z => np z.symm)
    have S := S.call g hD
    refine ⟨_, _, rfl, rfl, _, rfl, by omega, by omega, fun D hDn => ?_⟩
    have ndD := S.dr.ne hDn
    have bD := S.go.fresh hDn
    have pD : p ≠ D := ne_of_none hpp hDn
    refine lc_range (lo := 0) (n := (1 + n).toNat) (fun i H' => ∃ (ys : List V) (G0 : Hp), H' D = some (.lst ys) ∧ ys.length = i ∧ Pairs G0 ys ∧ Sd d H0 B G0 H' ∧ G0 D = none ∧ H' p = some (.lst []) ∧ G0 p = none) ⟨[], _, upd_same, rfl, (fun y h => nomatch h), S.lay _ hDn, S.ex.free hDn, (upd_ne pD).trans hpp, h0p⟩ ?_ ?_
    · rintro i H' hi ⟨ys, G0, h1, h2, h3, S1, h4, h5, h6⟩
      refine ⟨rfl, ?_⟩
      refine ⟨_, rfl, d, _, rfl, S1.ex, S1.dr, fun c G1 H2 c0 c1 g hD2 => ?_⟩
      have h6 := g.new p (by rw [h5]; simp) h6
      have h4 := g.new D (by rw [h1]; simp) h4
      have h5 := g.keep p _ h5 (fun z => np z.symm)
      have h1 := g.keep D _ h1 (fun z => ndD z.symm)
      have h3 := h3.up g.up
      have S1 := S1.call g hD2
      refine ⟨_, rfl, d, _, rfl, S1.ex, S1.dr, fun k G1 H2 k0 k1 g hD2 => ?_⟩
      have h6 := g.new p (by rw [h5]; simp) h6
      have h4 := g.new D (by rw [h1]; simp) h4
      have h5 := g.keep p _ h5 (fun z => np z.symm)
      have h1 := g.keep D _ h1 (fun z => ndD z.symm)
      have h3 := h3.up g.up
      have S1 := S1.call g hD2
      refine ⟨(by show 2 ≤ sizeLine; decide), fun t ht => ?_⟩
      have pt : p ≠ t := ne_of_none h5 ht
      have Dt : D ≠ t := ne_of_none h1 ht
      have h3 := h3.up (Ex.new (o := .tup [.int c, .int k]) (S1.ex.free ht))
      have S2 := S1.put (.tup [.int c, .int k]) ht
      have h1' := (upd_ne (o := .tup [.int c, .int k]) Dt).trans h1
      have h4' : upd G1 t (.tup [.int c, .int k]) D = none := (upd_ne Dt).trans h4
      refine ⟨_, h1', mem_lt (by omega), ys ++ [.ref t], _, upd_same, by rw [List.length_append, h2]; rfl, h3.snoc upd_same ⟨c0, c1⟩ ⟨k0, k1⟩, S2.turn _ bD h4' ndD, h4', ?_, (upd_ne pt).trans h6⟩
      rw [upd_ne pD, upd_ne pt, h5]
    · rintro H' ⟨ys, G0, h1, h2, h3, S1, h4, h5, h6⟩
      -- the pairs' list is settled
      have S1 := S1.set bD h1 h4 ndD
      have h3 := h3.up (Ex.new (o := .lst ys) h4)
      have h1 : upd G0 D (.lst ys) D = some (.lst ys) := upd_same
      have h6 : upd G0 D (.lst ys) p = none := (upd_ne pD).trans h6
      revert h1 h3 h6 S1
      generalize upd G0 D (.lst ys) = G0
      intro S h3 hD0 h0p
      have hys : 0 < ys.length := by omega
      have hys2 : ys.length ≤ 3 := by omega
      clear g hD h4 h2
      have lok : ∀ (i : Nat) (v : V), ys[i]? = some v → ∃ q c k, v = .ref q ∧ G0 q = some (.tup [.int c, .int k]) ∧ (0 ≤ c ∧ c ≤ 15) ∧ (0 ≤ k ∧ k ≤ 127) := fun i v hv => h3 v (List.mem_of_getElem? hv)
      refine ⟨_, rfl, _, rfl, _, _, rfl, rfl, d, _, _, rfl, by omega, by omega, S.ex, S.dr, fun n H n0 n1 g hD => ?_⟩
      have h0p := g.new p (by rw [h5]; simp) h0p
      have hpp := g.keep p _ h5 (fun z => np z.symm)
      have S := S.call g hD
      obtain ⟨n, rfl⟩ : ∃ k : Nat, n = (k : Int) := ⟨n.toNat, by omega⟩
      refine ⟨_, rfl, by omega, by omega, for_range (lo := 0) (n := n) (fun i σ H' => ∃ (v5 v6 v7 v8 : Option V) (t : Int) (ps : List Addr) (es : List Evt) (G1 : Hp), σ = [some (.ref d), some (.int (m : Int)), some (.ref p), some (.int t), some (.ref D), v5, v6, v7, v8] ∧ 0 ≤ t ∧ t ≤ 999999 ∧ TrS d H0 B p ps (es.map Evt.v) G1 H' ∧ Ex G0 G1 ∧ es.length = i ∧ (∀ e ∈ es, e.Ok) ∧ RiseE es ∧ (∀ e ∈ es, e.tick ≤ t))
        ⟨_, _, _, _, 0, [], [], G0, rfl, by decide, by decide, ⟨S, hpp, h0p, Evs.nil _, np⟩, Ex.refl _, rfl, (fun x h => nomatch h), (fun i x y h => by simp at h), (fun x h => nomatch h)⟩ ?_ ?_⟩
      · clear S hpp h0p hD g
        rintro i σ H hi ⟨v5, v6, v7, v8, t, ps, es, G1, rfl, t0, t1, T, xG, hl, hok, hrise, hle⟩
        -- tick = min(999999, tick + pick(draw, (1, 3, 60, 9000)[pick(draw, 4)]))
        refine ⟨_, rfl, _, rfl, (by show 4 ≤ sizeLine; decide), fun w hw => ?_⟩
        obtain ⟨G2, H, eH, T, hww, x⟩ := T.nw (.tup [.int 1, .int 3, .int 60, .int 9000]) hw
        have xG := xG.trans x
        rw [eH]
        refine ⟨_, rfl, d, 4, _, rfl, by decide, by decide, T.S.ex, T.S.dr, fun y H y0 y1 g hD => ?_⟩
        have T := T.call g hD
        obtain ⟨z, hz, z0, z1⟩ := get_int [.int 1, .int 3, .int 60, .int 9000] 1 9000 (fun v hv => by
          simp only [List.mem_cons, List.mem_nil_iff, or_false] at hv
          rcases hv with rfl | rfl | rfl | rfl
          · exact ⟨_, rfl, by decide, by decide⟩
          · exact ⟨_, rfl, by decide, by decide⟩
          · exact ⟨_, rfl, by decide, by decide⟩
          · exact ⟨_, rfl, by decide, by decide⟩) y y0 y1
        refine ⟨w, _, _, _, rfl, rfl, SqT.of (T.S.ex _ _ hww), at_of (j := y.toNat) (by omega) hz, d, z, _, rfl, by omega, by omega, T.S.ex, T.S.dr, fun u H u0 u1 g hD => ?_⟩
        have T := T.call g hD
        refine ⟨_, _, rfl, rfl, _, _, rfl, ?_⟩
        dsimp only
        obtain ⟨t', et, h1, h2, h3⟩ : ∃ t', (if t + u < 999999 then t + u else 999999) = t' ∧ t ≤ t' ∧ 0 ≤ t' ∧ t' ≤ 999999 := by
          refine ⟨_, rfl, ?_⟩
          split <;> omega
        rw [et]
        -- channel, key = one(draw, some)
        refine ⟨_, rfl, _, rfl, d, D, ys, _, rfl, T.S.ex, T.S.dr, xG _ _ hD0, hys, by omega, fun iy v H hv g hD => ?_⟩
        have T := T.call g hD
        obtain ⟨qa, c, k, rfl, hqa, hc, hk⟩ := lok iy v hv
        refine ⟨qa, _, rfl, SqT.of (T.S.ex _ _ (xG _ _ hqa)), rfl, _, _, rfl, _, _, rfl, rfl, ?_⟩
        -- kind
        refine ⟨_, rfl, d, 9, _, rfl, by decide, by decide, T.S.ex, T.S.dr, fun kd H kd0 kd1 g hD => ?_⟩
        have T := T.call g hD
        -- the list grows by one event
        have fin : ∀ (e : Evt) (x : Addr) (G3 H3 : Hp) (v8 : Option V), TrS d H0 B p ps (es.map Evt.v) G3 H3 → Ex G0 G3 → G3 x = some (.tup e.v) → e.Ok → e.tick = t' →
            ∃ (l : Addr) (xs : List V) (y : V), V.ref p = .ref l ∧ [V.ref x] = [y] ∧ H3 l = some (.lst xs) ∧ xs.length < sizeLine ∧ ∃ (v5' v6' v7' v8' : Option V) (tt : Int) (ps' : List Addr) (es' : List Evt) (G' : Hp), [some (.ref d), some (.int (m : Int)), some (.ref p), some (.int t'), some (.ref D), some (V.int (0 + (i : Int))), some (.int c), some (.int k), v8] = [some (.ref d), some (.int (m : Int)), some (.ref p), some (.int tt), some (.ref D), v5', v6', v7', v8'] ∧ 0 ≤ tt ∧ tt ≤ 999999 ∧ TrS d H0 B p ps' (es'.map Evt.v) G' (upd H3 l (.lst (xs ++ [y]))) ∧ Ex G0 G' ∧ es'.length = i + 1 ∧ (∀ e ∈ es', e.Ok) ∧ RiseE es' ∧ (∀ e ∈ es', e.tick ≤ tt) := fun e x G3 H3 v8 T x3 hx ok tk => by
          have S2 := T.S.turn (.lst (ps.map V.ref ++ [.ref x])) hp T.h0 np
          have le : ∀ e2 ∈ es, e2.tick ≤ e.tick := fun e2 h => by rw [tk]; exact Int.le_trans (hle e2 h) h1
          have ln : ps.length = es.length := T.hev.len
          have hv := T.hev.snoc hx
          rw [show es.map Evt.v ++ [e.v] = (es ++ [e]).map Evt.v by rw [List.map_append]; rfl] at hv
          refine ⟨p, _, _, rfl, rfl, T.hp, mem_lt (by rw [List.length_map]; omega), _, _, _, _, t', ps ++ [x], es ++ [e], G3, rfl, h2, h3, ⟨S2, ?_, T.h0, hv, np⟩, x3, by rw [List.length_append, hl]; rfl, fun e2 h => ?_, hrise.snoc le, fun e2 h => ?_⟩
          · rw [upd_same, List.map_append]
            rfl
          · rcases List.mem_append.mp h with h | h
            · exact hok e2 h
            · rw [List.mem_singleton.mp h]; exact ok
          · rcases List.mem_append.mp h with h | h
            · rw [← tk]; exact le e2 h
            · rw [List.mem_singleton.mp h, tk]; exact Int.le_refl _
        refine ⟨_, rfl, _, _, rfl, rfl, _, rfl, ifD (fun c4 => ?_) (fun c4 => ?_)⟩
        · -- an on
          refine ⟨_, rfl, .inl ⟨rfl, _, SqL.of T.hp⟩, _, rfl, _, rfl, _, rfl, _, rfl, d, 127, _, rfl, by decide, by decide, T.S.ex, T.S.dr, fun f H f0 f1 g hD => ?_⟩
          have T := T.call g hD
          refine ⟨_, _, rfl, rfl, (by show 5 ≤ sizeLine; decide), ?_⟩
          dsimp only
          refine fun w5 hw5 => ?_
          obtain ⟨G3, H, eH, T, hx, x3⟩ := T.nw (.tup [.int t', .str "on", .int c, .int k, .int (1 + f)]) hw5
          rw [eH]
          exact fin (.key true t' c k (1 + f)) w5 _ _ _ T (xG.trans x3) hx ⟨⟨h2, h3⟩, hc, hk, by show 1 ≤ 1 + f; omega, by omega⟩ rfl
        · refine ⟨_, rfl, _, _, rfl, rfl, _, rfl, ifD (fun c8 => ?_) (fun c8 => ?_)⟩
          · -- an off
            refine ⟨_, rfl, .inl ⟨rfl, _, SqL.of T.hp⟩, _, rfl, _, rfl, _, rfl, _, rfl, d, 128, _, rfl, by decide, by decide, T.S.ex, T.S.dr, fun f H f0 f1 g hD => ?_⟩
            have T := T.call g hD
            refine ⟨(by show 2 ≤ sizeLine; decide), fun w2 hw2 => ?_⟩
            obtain ⟨G3, H, eH, T, hx2, x3⟩ := T.nw (.tup [.int 64, .int f]) hw2
            have xG := xG.trans x3
            rw [eH]
            refine ⟨_, rfl, d, 2, _, rfl, by decide, by decide, T.S.ex, T.S.dr, fun u H u0 u1 g hD => ?_⟩
            have T := T.call g hD
            obtain ⟨f', hf', f0', f1'⟩ := get_int [.int 64, .int f] 0 127 (fun v hv => by
              simp only [List.mem_cons, List.mem_nil_iff, or_false] at hv
              rcases hv with rfl | rfl
              · exact ⟨_, rfl, by decide, by decide⟩
              · exact ⟨_, rfl, f0, by omega⟩) u u0 u1
            refine ⟨w2, _, _, _, rfl, rfl, SqT.of (T.S.ex _ _ hx2), at_of (j := u.toNat) (by omega) hf', (by show 5 ≤ sizeLine; decide), fun w5 hw5 => ?_⟩
            obtain ⟨G4, H, eH, T, hx, x4⟩ := T.nw (.tup [.int t', .str "off", .int c, .int k, .int f']) hw5
            rw [eH]
            exact fin (.key false t' c k f') w5 _ _ _ T (xG.trans x4) hx ⟨⟨h2, h3⟩, hc, hk, f0', f1'⟩ rfl
          · -- another thing
            refine ⟨_, rfl, .inl ⟨rfl, _, SqL.of T.hp⟩, _, rfl, (by show 1 ≤ sizeLine; decide), fun w1 hw1 => ?_⟩
            obtain ⟨G3, H, eH, T, hx1, x3⟩ := T.nw (.tup [.int t']) hw1
            have xG := xG.trans x3
            rw [eH]
            refine ⟨_, rfl, d, _, rfl, T.S.ex, T.S.dr, fun b ys G4 H ok sc ln g hD _ hb => ?_⟩
            have xG := xG.trans g.up
            have hx1 := g.up _ _ hx1
            have T := T.call g hD
            refine T.cat hx1 hb (by show 1 + _ ≤ 1000; omega) fun c2 G5 H5 T x5 hc2 => ?_
            obtain ⟨e, he, oke, tk⟩ := evt_of h2 h3 ok ln
            refine fin e c2 _ _ _ T (xG.trans x5) ?_ oke tk
            rw [← he]
            exact hc2
      · rintro σ H ⟨v5, v6, v7, v8, t, ps, es, G1, rfl, t0, t1, T, xG, hl, hok, hrise, hle⟩
        exact ⟨_, rfl, q p ps es _ _ T.S.go T.S.dr hp T.hp T.h0 T.hev (by omega) hok hrise⟩
abbrev s_tick : Stmt := topS 23
theorem sc_tick : FnScope ["_law_draw"] ["_law_draw"] (defScope s_tick) := ⟨rfl, rfl, rfl, by decide +kernel, rfl, by decide +kernel, by decide +kernel⟩
theorem ok_tick {f : Addr} {fd : FuncData} (F : Fun K "_law_tick" "_law_tick" s_tick f fd) (D__law_pick : Def P w K mg base "_law_pick" 1 spPick) : FnOk P w K mg base CX0 2 f fd ["_law_draw"] (spInts 0 999999) := by
  refine F.ok sc_tick (fun vs H Q E h => ?_) (fun cdv A outer s H vs Q E hr h => ?_)
  · obtain ⟨d, H0, rfl, _⟩ := h
    rfl
  · obtain ⟨d, H0, rfl, e0, hD, q⟩ := h
    refine ⟨_, (pss_one (ps_ret (pe_ix ix_tup (pe_tup (pa_cons (pe_d D__law_pick (hr.mono (by decide)) rfl (pa_cons (pv 0) (pa_cons pe_int pa_nil))) (pa_cons (pe_d D__law_pick (hr.mono (by decide)) rfl (pa_cons (pv 0) (pa_cons pe_int pa_nil))) (pa_cons (pe_d D__law_pick (hr.mono (by decide)) rfl (pa_cons (pv 0) (pa_cons (pe_op op_pow pe_int pe_int) pa_nil))) (pa_cons pe_int pa_nil))))) (pe_d D__law_pick (hr.mono (by decide)) rfl (pa_cons (pv 0) (pa_cons pe_int pa_nil))) (fun _ _ => rfl)))), ?_⟩
    have S := Sd.here e0 hD
    refine ⟨_, rfl, d, 30, _, rfl, by decide, by decide, S.ex, S.dr, fun x H x0 x1 g hD => ?_⟩
    have S := S.call g hD
    refine ⟨_, rfl, d, 1000, _, rfl, by decide, by decide, S.ex, S.dr, fun y H y0 y1 g hD => ?_⟩
    have S := S.call g hD
    have b1 : (10 : Int) ^ (6 : Int).toNat = 1000000 := by decide
    refine ⟨_, rfl, _, _, rfl, rfl, ⟨by decide, by decide, by decide⟩, d, _, _, rfl, (by rw [b1]; decide), (by rw [b1]; decide), S.ex, S.dr, fun z H z0 z1 g hD => ?_⟩
    rw [b1] at z1
    have S := S.call g hD
    refine ⟨(by show 4 ≤ sizeLine; decide), fun t ht => ?_⟩
    have S := S.put (.tup [.int x, .int y, .int z, .int 999999]) ht
    refine ⟨_, rfl, d, 4, _, rfl, by decide, by decide, S.ex, S.dr, fun u H u0 u1 g hD => ?_⟩
    have S := S.call g hD
    have htt := g.up t _ upd_same
    obtain ⟨r, hr', r0, r1⟩ := get_int [.int x, .int y, .int z, .int 999999] 0 999999 (fun v hv => by
      simp only [List.mem_cons, List.mem_nil_iff, or_false] at hv
      rcases hv with rfl | rfl | rfl | rfl
      · exact ⟨x, rfl, x0, by omega⟩
      · exact ⟨y, rfl, y0, by omega⟩
      · exact ⟨z, rfl, z0, by omega⟩
      · exact ⟨_, rfl, by decide, by decide⟩) u u0 u1
    exact ⟨t, _, _, _, rfl, rfl, SqT.of (S.ex _ _ htt), at_of (j := u.toNat) (by omega) hr', q r _ _ r0 r1 S.go S.dr⟩
abbrev s_far : Stmt := topS 24
theorem sc_far : FnScope ["_law_draw", "_law_number"] ["_law_draw"] (defScope s_far) := ⟨rfl, rfl, rfl, by decide +kernel, rfl, by decide +kernel, by decide +kernel⟩
def spFar : Sp := fun vs H Q _ => ∃ (d : Addr) (H0 : Hp), vs = [.ref d] ∧ Ex H0 H ∧ Dr H0 H d ∧
  ∀ (r : Int) (H0' H' : Hp), r.natAbs < 10 ^ 30 → Go (· = d) H0 H H0' H' → Dr H0' H' d → Q (.int r) H'
theorem ok_far {f : Addr} {fd : FuncData} (F : Fun K "_law_far" "_law_far" s_far f fd) (D__law_pick : Def P w K mg base "_law_pick" 1 spPick) : FnOk P w K mg base CX0 2 f fd ["_law_draw"] spFar := by
  refine F.ok sc_far (fun vs H Q E h => ?_) (fun cdv A outer s H vs Q E hr h => ?_)
  · obtain ⟨d, H0, rfl, _⟩ := h
    rfl
  · obtain ⟨d, H0, rfl, e0, hD, q⟩ := h
    refine ⟨_, (pss_cons (ps_set (i := 1) sc_far.nd rfl (Or.inl rfl) (pe_op op_add (pe_op op_add (pe_op op_pow pe_int pe_int) (pe_d D__law_pick (hr.mono (by decide)) rfl (pa_cons (pv 0) (pa_cons (pe_op op_pow pe_int pe_int) pa_nil)))) (pe_op op_mul (pe_op op_pow pe_int pe_int) (pe_d D__law_pick (hr.mono (by decide)) rfl (pa_cons (pv 0) (pa_cons pe_int pa_nil))))))
      (pss_one (ps_ret (pe_ix ix_tup (pe_tup (pa_cons (pv 1) (pa_cons (pe_op op_sub pe_int (pv 1)) pa_nil))) (pe_d D__law_pick (hr.mono (by decide)) rfl (pa_cons (pv 0) (pa_cons pe_int pa_nil))) (fun _ _ => rfl))))), ?_⟩
    have S := Sd.here e0 hD
    have b1 : (10 : Int) ^ (9 : Int).toNat ≤ 1000000000 := by decide
    refine ⟨_, _, rfl, rfl, ⟨by decide, by decide, by decide⟩, _, rfl, _, _, rfl, rfl, ⟨by decide, by decide, by decide⟩, d, _, H0, rfl, (by show (0 : Int) < 10 ^ (9 : Int).toNat; decide), b1, S.ex, S.dr, fun x H x0 x1 g hD => ?_⟩
    have S := S.call g hD
    have x2 : x < 1000000000 := Int.lt_of_lt_of_le x1 b1
    refine ⟨_, _, rfl, rfl, _, _, rfl, rfl, ⟨by decide, by decide, by decide⟩, _, rfl, d, 2, H0, rfl, by decide, by decide, S.ex, S.dr, fun y H y0 y1 g hD => ?_⟩
    have S := S.call g hD
    refine ⟨_, _, rfl, rfl, .inr ⟨by omega, by omega⟩, _, _, rfl, rfl, ?_⟩
    have ez : ∀ z : Int, z = (10 : Int) ^ (7 : Int).toNat + x + 10 ^ (28 : Int).toNat * y → z.natAbs < 10 ^ 30 ∧ (0 - z).natAbs < 10 ^ 30 := fun z e => by
      have c1 : (10 : Int) ^ (7 : Int).toNat = 10000000 := by decide
      have c2 : (10 : Int) ^ (28 : Int).toNat = 10000000000000000000000000000 := by decide
      rw [c1, c2] at e
      have : (10 : Nat) ^ 30 = 1000000000000000000000000000000 := by decide
      omega
    obtain ⟨z1, z2⟩ := ez _ rfl
    refine ⟨_, rfl, _, rfl, _, _, rfl, rfl, (by show 2 ≤ sizeLine; decide), fun t ht => ?_⟩
    have S := S.put (.tup [.int ((10 : Int) ^ (7 : Int).toNat + x + 10 ^ (28 : Int).toNat * y), .int (0 - ((10 : Int) ^ (7 : Int).toNat + x + 10 ^ (28 : Int).toNat * y))]) ht
    refine ⟨_, rfl, d, 2, _, rfl, by decide, by decide, S.ex, S.dr, fun u H u0 u1 g hD => ?_⟩
    have S := S.call g hD
    have ht1 := S.ex _ _ upd_same
    by_cases c : u = 0
    · subst c
      exact ⟨t, _, _, _, rfl, rfl, SqT.of ht1, at_of (j := 0) rfl rfl, q _ _ _ z1 S.go S.dr⟩
    · obtain rfl : u = 1 := by omega
      exact ⟨t, _, _, _, rfl, rfl, SqT.of ht1, at_of (j := 1) rfl rfl, q _ _ _ z2 S.go S.dr⟩
abbrev s_same : Stmt := topS 31
theorem sc_same : FnScope ["_law_found", "_law_due", "_law_k"] ["_law_found", "_law_due"] (defScope s_same) := ⟨rfl, rfl, rfl, by decide +kernel, rfl, by decide +kernel, by decide +kernel⟩
/-- both stand for the same datum d, at most n deep -/
def spSame (K : PySem.W.Frag) (n : Nat) : Sp := fun vs H Q _ => ∃ (v u : V) (d : PyData) (H0 : Hp), vs = [v, u] ∧ Ex H0 H ∧ Dp K H v d ∧ Dp K H u d ∧ d.depth ≤ n ∧ smA d ∧ ∀ H', Go (fun _ => False) H0 H H0 H' → Q (.bl true) H'
def spRec (K : PySem.W.Frag) (n : Nat) : Sp := fun vs H Q E => ∃ m, n = m + 1 ∧ spSame K m vs H Q E
theorem same_step {f : Addr} {fd : FuncData} (n : Nat) (F : Fun K "_law_same" "_law_same" s_same f fd) (D__law_same : Def P w K mg base "_law_same" n (spRec K n)) (m_isinstance : mg "isinstance" = none) (m_bool : mg "bool" = none) (m_int : mg "int" = none) (m_str : mg "str" = none)
    (m_list : mg "list" = none) (m_tuple : mg "tuple" = none) (m_len : mg "len" = none) (m_all : mg "all" = none) (m_range : mg "range" = none) : FnOk P w K mg base CX0 (n + 1) f fd ["_law_found", "_law_due"] (spSame K n) := by
  refine F.ok sc_same (fun vs H Q E h => ?_) (fun cdv A outer s H vs Q E hr h => ?_)
  · obtain ⟨v, u, d, H0, rfl, _⟩ := h
    rfl
  · obtain ⟨v, u, d, H0, rfl, e0, hv, hu, hdep, hsm, q⟩ := h
    refine ⟨_, (pss_cons (ps_if (pt_cmpR op_isN (pv 1) pe_non (nomark _)) (pss_one (ps_ret (pe_cmpR op_isN (pv 0) pe_non (nomark _)))) pss_nil)
      (pss_cons (ps_if (PW.pt (pw_or (pt_val (pe_callB call_isi (by rfl) m_isinstance bt_isinstance (pa_cons (pv 1) (pa_cons (pe_bltn (v := .ty "bool") (by rfl) m_bool bt_bool rfl) pa_nil)))) (pw_or1 (pt_val (pe_callB call_isi (by rfl) m_isinstance bt_isinstance (pa_cons (pv 0) (pa_cons (pe_bltn (v := .ty "bool") (by rfl) m_bool bt_bool rfl) pa_nil))))))) (pss_one (ps_ret (pe_and (pe_callB call_isi (by rfl) m_isinstance bt_isinstance (pa_cons (pv 1) (pa_cons (pe_bltn (v := .ty "bool") (by rfl) m_bool bt_bool rfl) pa_nil))) (pe_and (pe_callB call_isi (by rfl) m_isinstance bt_isinstance (pa_cons (pv 0) (pa_cons (pe_bltn (v := .ty "bool") (by rfl) m_bool bt_bool rfl) pa_nil))) (pe_one (pe_cmpR op_eq (pv 0) (pv 1) (nomark _))))))) pss_nil)
      (pss_cons (ps_if (pt_val (pe_callB call_isiT (by rfl) m_isinstance bt_isinstance (pa_cons (pv 1) (pa_cons (pe_tup (pa_cons (pe_bltn (v := .ty "int") (by rfl) m_int bt_int rfl) (pa_cons (pe_bltn (v := .ty "str") (by rfl) m_str bt_str rfl) pa_nil))) pa_nil)))) (pss_one (ps_ret (pe_and (pe_cmpR op_eq (pe_callB call_isi (by rfl) m_isinstance bt_isinstance (pa_cons (pv 0) (pa_cons (pe_bltn (v := .ty "int") (by rfl) m_int bt_int rfl) pa_nil))) (pe_callB call_isi (by rfl) m_isinstance bt_isinstance (pa_cons (pv 1) (pa_cons (pe_bltn (v := .ty "int") (by rfl) m_int bt_int rfl) pa_nil))) (nomark _)) (pe_and (pe_callB call_isiT (by rfl) m_isinstance bt_isinstance (pa_cons (pv 0) (pa_cons (pe_tup (pa_cons (pe_bltn (v := .ty "int") (by rfl) m_int bt_int rfl) (pa_cons (pe_bltn (v := .ty "str") (by rfl) m_str bt_str rfl) pa_nil))) pa_nil))) (pe_one (pe_cmpR op_eq (pv 0) (pv 1) (nomark _))))))) pss_nil)
      (pss_cons (ps_if (PW.pt (pw_or (pt_cmpR op_ne (pe_callB call_isi (by rfl) m_isinstance bt_isinstance (pa_cons (pv 0) (pa_cons (pe_bltn (v := .ty "list") (by rfl) m_list bt_list rfl) pa_nil))) (pe_callB call_isi (by rfl) m_isinstance bt_isinstance (pa_cons (pv 1) (pa_cons (pe_bltn (v := .ty "list") (by rfl) m_list bt_list rfl) pa_nil))) (nomark _)) (pw_or1 (pt_cmpR op_ne (pe_callB call_isi (by rfl) m_isinstance bt_isinstance (pa_cons (pv 0) (pa_cons (pe_bltn (v := .ty "tuple") (by rfl) m_tuple bt_tuple rfl) pa_nil))) (pe_callB call_isi (by rfl) m_isinstance bt_isinstance (pa_cons (pv 1) (pa_cons (pe_bltn (v := .ty "tuple") (by rfl) m_tuple bt_tuple rfl) pa_nil))) (nomark _))))) (pss_one (ps_ret pe_bl)) pss_nil)
      (pss_one (ps_ret (pe_and (pe_cmpR op_eq (pe_callB call_len_seq (by rfl) m_len PySem.boot_len (pa_cons (pv 0) pa_nil)) (pe_callB call_len_seq (by rfl) m_len PySem.boot_len (pa_cons (pv 1) pa_nil)) (nomark _)) (pe_one (pe_callB (cr_all rfl) (by rfl) m_all bt_all (pa_cons (pe_lc (own := [("_law_k", 2)]) (g := gName 2) (tt := tYes) rfl sc_same.nd (pi_range1 rfl m_range (pa_cons (pe_callB call_len_seq (by rfl) m_len PySem.boot_len (pa_cons (pv 1) pa_nil)) pa_nil)) (blkOk_by (N := ["_law_found", "_law_due", "_law_k"]) (sc := defScope s_same) (by decide +kernel)) (fun _ _ _ _ _ => pg_name (i := 2) sc_same.nd rfl (Or.inl rfl)) (fun _ _ _ _ _ => pts_nil) (fun _ _ _ _ _ => (pe_d D__law_same hr rfl (pa_cons (pe_ix (r := rIx K) ix_seq (pv 0) (pv 2) (fun _ _ => rfl)) (pa_cons (pe_ix (r := rIx K) ix_seq (pv 1) (pv 2) (fun _ _ => rfl)) pa_nil))))) pa_nil)))))))))), ?_⟩
    have g0 := Go.refl (m := fun _ => False) e0
    cases hu with
    | non =>
      cases hv
      refine ⟨_, rfl, rfl, _, rfl, ifT rfl ?_⟩
      exact ⟨_, rfl, rfl, q _ g0⟩
    | bl b =>
      cases hv
      refine ⟨_, rfl, rfl, _, rfl, ifF rfl ?_⟩
      refine ⟨_, rfl, _, _, _, _, true, rfl, .ty "bool", .base (.bl b), kit_ty (by decide +kernel), _, rfl, ifT rfl ?_⟩
      refine ⟨_, rfl, _, _, _, _, true, rfl, .ty "bool", .base (.bl b), kit_ty (by decide +kernel), _, rfl, ifT rfl ?_⟩
      refine ⟨_, rfl, _, _, _, _, true, rfl, .ty "bool", .base (.bl b), kit_ty (by decide +kernel), _, rfl, ifT rfl ?_⟩
      refine ⟨_, rfl, _, rfl, rfl, ?_⟩
      rw [decide_eq_true rfl]
      exact q _ g0
    | int i =>
      cases hv
      refine ⟨_, rfl, rfl, _, rfl, ifF rfl ?_⟩
      refine ⟨_, rfl, _, _, _, _, false, rfl, .ty "bool", .base (.int i), kit_ty (by decide +kernel), _, rfl, ifF rfl ?_⟩
      refine ⟨_, rfl, _, _, _, _, false, rfl, .ty "bool", .base (.int i), kit_ty (by decide +kernel), _, rfl, ifF rfl ?_⟩
      refine ⟨_, rfl, (by show 2 ≤ sizeLine; decide), fun t ht => ?_⟩
      have g1 := g0.lay (.tup [.ty "int", .ty "str"]) ht
      refine ⟨_, t, _, _, [.type "int", .type "str"], true, rfl, upd_same, .cons (.ty _) (.cons (.ty _) .nil), .base (.int i), kitAny_cons (b := true) (kit_ty (by decide +kernel)) (fun z => nomatch z) (fun _ => rfl), _, rfl, ifT rfl ?_⟩
      refine ⟨_, rfl, _, _, _, _, true, rfl, .ty "int", .base (.int i), kit_ty (by decide +kernel), _, rfl, _, _, _, _, true, rfl, .ty "int", .base (.int i), kit_ty (by decide +kernel), rfl, _, rfl, ifT rfl ?_⟩
      refine ⟨_, rfl, (by show 2 ≤ sizeLine; decide), fun t2 ht2 => ?_⟩
      have g2 := g1.lay (.tup [.ty "int", .ty "str"]) ht2
      refine ⟨_, t2, _, _, [.type "int", .type "str"], true, rfl, upd_same, .cons (.ty _) (.cons (.ty _) .nil), .base (.int i), kitAny_cons (b := true) (kit_ty (by decide +kernel)) (fun z => nomatch z) (fun _ => rfl), _, rfl, ifT rfl ?_⟩
      refine ⟨_, rfl, _, rfl, rfl, ?_⟩
      rw [decide_eq_true rfl]
      exact q _ g2
    | str x =>
      cases hv
      refine ⟨_, rfl, rfl, _, rfl, ifF rfl ?_⟩
      refine ⟨_, rfl, _, _, _, _, false, rfl, .ty "bool", .base (.str x), kit_ty (by decide +kernel), _, rfl, ifF rfl ?_⟩
      refine ⟨_, rfl, _, _, _, _, false, rfl, .ty "bool", .base (.str x), kit_ty (by decide +kernel), _, rfl, ifF rfl ?_⟩
      refine ⟨_, rfl, (by show 2 ≤ sizeLine; decide), fun t ht => ?_⟩
      have g1 := g0.lay (.tup [.ty "int", .ty "str"]) ht
      refine ⟨_, t, _, _, [.type "int", .type "str"], true, rfl, upd_same, .cons (.ty _) (.cons (.ty _) .nil), .base (.str x), kitAny_cons (b := false) (kit_ty (by decide +kernel)) (fun _ => kitAny_cons (b := true) (kit_ty (by decide +kernel)) (fun z => nomatch z) (fun _ => rfl)) (fun z => nomatch z), _, rfl, ifT rfl ?_⟩
      refine ⟨_, rfl, _, _, _, _, false, rfl, .ty "int", .base (.str x), kit_ty (by decide +kernel), _, rfl, _, _, _, _, false, rfl, .ty "int", .base (.str x), kit_ty (by decide +kernel), rfl, _, rfl, ifT rfl ?_⟩
      refine ⟨_, rfl, (by show 2 ≤ sizeLine; decide), fun t2 ht2 => ?_⟩
      have g2 := g1.lay (.tup [.ty "int", .ty "str"]) ht2
      refine ⟨_, t2, _, _, [.type "int", .type "str"], true, rfl, upd_same, .cons (.ty _) (.cons (.ty _) .nil), .base (.str x), kitAny_cons (b := false) (kit_ty (by decide +kernel)) (fun _ => kitAny_cons (b := true) (kit_ty (by decide +kernel)) (fun z => nomatch z) (fun _ => rfl)) (fun z => nomatch z), _, rfl, ifT rfl ?_⟩
      refine ⟨_, rfl, _, rfl, rfl, ?_⟩
      rw [decide_eq_true rfl]
      exact q _ g2
    | @lst pu us ds su au =>
      cases hv with
      | @lst pv_ vs _ sv av =>
      refine ⟨_, rfl, rfl, _, rfl, ifF rfl ?_⟩
      refine ⟨_, rfl, _, _, _, _, false, rfl, .ty "bool", tyL su, kit_ty (by decide +kernel), _, rfl, ifF rfl ?_⟩
      refine ⟨_, rfl, _, _, _, _, false, rfl, .ty "bool", tyL sv, kit_ty (by decide +kernel), _, rfl, ifF rfl ?_⟩
      refine ⟨_, rfl, (by show 2 ≤ sizeLine; decide), fun t ht => ?_⟩
      have g1 := g0.lay (.tup [.ty "int", .ty "str"]) ht
      have x1 := go_ex g1
      refine ⟨_, t, _, _, [.type "int", .type "str"], false, rfl, upd_same, .cons (.ty _) (.cons (.ty _) .nil), tyL (x1.seq su), kitAny_cons (b := false) (kit_ty (by decide +kernel)) (fun _ => kitAny_cons (b := false) (kit_ty (by decide +kernel)) (fun _ => kitAny_nil) (fun z => nomatch z)) (fun z => nomatch z), _, rfl, ifF rfl ?_⟩
      refine ⟨_, rfl, _, _, _, _, true, rfl, .ty "list", tyL (x1.seq sv), kit_ty (by decide +kernel), _, rfl, _, _, _, _, true, rfl, .ty "list", tyL (x1.seq su), kit_ty (by decide +kernel), rfl, _, rfl, ifF rfl ?_⟩
      refine ⟨_, rfl, _, _, _, _, false, rfl, .ty "tuple", tyL (x1.seq sv), kit_ty (by decide +kernel), _, rfl, _, _, _, _, false, rfl, .ty "tuple", tyL (x1.seq su), kit_ty (by decide +kernel), rfl, _, rfl, ifF rfl ?_⟩
      have lv := dpa_len av
      have lu := dpa_len au
      refine ⟨_, rfl, pv_, vs, rfl, .inl (x1.seq sv), _, rfl, pu, us, rfl, .inl (x1.seq su), rfl, _, rfl, ifT (decide_eq_true (by rw [lv, lu])) ?_⟩
      refine ⟨_, rfl, pu, us, rfl, .inl (x1.seq su), _, rfl, by omega, by have := hsm.1; omega, fun D hD => lc_range (lo := 0) (n := us.length) (fun i H' => H' D = some (.lst (List.replicate i (.bl true))) ∧ Go (fun _ => False) H0 H H0 H') ⟨upd_same, g1.lay _ hD⟩ (fun i H' hi p => ?_) (fun H1 p => ?_)⟩
      · obtain ⟨d, hd⟩ : ∃ d, ds[i]? = some d := ⟨_, List.getElem?_eq_getElem (by omega)⟩
        obtain ⟨a, ha, da⟩ := dpa_at _ _ i d av hd
        obtain ⟨b, hb, db⟩ := dpa_at _ _ i d au hd
        have dd := dep_at hd
        have xp := go_ex p.2
        obtain ⟨m, rfl⟩ : ∃ m, n = m + 1 := ⟨n - 1, by have : PyData.depthAll ds + 1 ≤ n := hdep; omega⟩
        have dm : d.depth ≤ m := by
          have : PyData.depthAll ds + 1 ≤ m + 1 := hdep
          omega
        refine ⟨rfl, ?_⟩
        refine ⟨_, rfl, _, rfl, .inl ⟨pv_, vs, _, a, rfl, rfl, xp.seq sv, at_of (j := i) (by omega) ha, _, rfl, _, rfl, .inl ⟨pu, us, _, b, rfl, rfl, xp.seq su, at_of (j := i) (by omega) hb, ?_⟩⟩⟩
        refine ⟨m, rfl, a, b, d, H0, rfl, p.2.inn, dp_up xp _ _ da, dp_up xp _ _ db, dm, sm_at hsm.2 hd, fun H2 g2 => ?_⟩
        have hD2 := g2.keep _ _ p.1 (fun z => z)
        refine ⟨_, hD2, mem_lt (by have := hsm.1; rw [List.length_replicate]; omega), ?_, (p.2.then g2).turn _ (g1.fresh hD) (g1.fresh0 hD)⟩
        rw [upd_same, List.replicate_succ']
      · have pn : H1 D = some (.lst ((List.replicate us.length true).map V.bl)) := by rw [p.1, List.map_replicate]
        refine ⟨D, _, rfl, SqL.of pn, ?_⟩
        rw [all_rep]
        exact q _ p.2
    | @tup pu us ds su au =>
      cases hv with
      | @tup pv_ vs _ sv av =>
      refine ⟨_, rfl, rfl, _, rfl, ifF rfl ?_⟩
      refine ⟨_, rfl, _, _, _, _, false, rfl, .ty "bool", tyT su, kit_ty (by decide +kernel), _, rfl, ifF rfl ?_⟩
      refine ⟨_, rfl, _, _, _, _, false, rfl, .ty "bool", tyT sv, kit_ty (by decide +kernel), _, rfl, ifF rfl ?_⟩
      refine ⟨_, rfl, (by show 2 ≤ sizeLine; decide), fun t ht => ?_⟩
      have g1 := g0.lay (.tup [.ty "int", .ty "str"]) ht
      have x1 := go_ex g1
      refine ⟨_, t, _, _, [.type "int", .type "str"], false, rfl, upd_same, .cons (.ty _) (.cons (.ty _) .nil), tyT (x1.tup su), kitAny_cons (b := false) (kit_ty (by decide +kernel)) (fun _ => kitAny_cons (b := false) (kit_ty (by decide +kernel)) (fun _ => kitAny_nil) (fun z => nomatch z)) (fun z => nomatch z), _, rfl, ifF rfl ?_⟩
      refine ⟨_, rfl, _, _, _, _, false, rfl, .ty "list", tyT (x1.tup sv), kit_ty (by decide +kernel), _, rfl, _, _, _, _, false, rfl, .ty "list", tyT (x1.tup su), kit_ty (by decide +kernel), rfl, _, rfl, ifF rfl ?_⟩
      refine ⟨_, rfl, _, _, _, _, true, rfl, .ty "tuple", tyT (x1.tup sv), kit_ty (by decide +kernel), _, rfl, _, _, _, _, true, rfl, .ty "tuple", tyT (x1.tup su), kit_ty (by decide +kernel), rfl, _, rfl, ifF rfl ?_⟩
      have lv := dpa_len av
      have lu := dpa_len au
      refine ⟨_, rfl, pv_, vs, rfl, .inr (x1.tup sv), _, rfl, pu, us, rfl, .inr (x1.tup su), rfl, _, rfl, ifT (decide_eq_true (by rw [lv, lu])) ?_⟩
      refine ⟨_, rfl, pu, us, rfl, .inr (x1.tup su), _, rfl, by omega, by have := hsm.1; omega, fun D hD => lc_range (lo := 0) (n := us.length) (fun i H' => H' D = some (.lst (List.replicate i (.bl true))) ∧ Go (fun _ => False) H0 H H0 H') ⟨upd_same, g1.lay _ hD⟩ (fun i H' hi p => ?_) (fun H1 p => ?_)⟩
      · obtain ⟨d, hd⟩ : ∃ d, ds[i]? = some d := ⟨_, List.getElem?_eq_getElem (by omega)⟩
        obtain ⟨a, ha, da⟩ := dpa_at _ _ i d av hd
        obtain ⟨b, hb, db⟩ := dpa_at _ _ i d au hd
        have dd := dep_at hd
        have xp := go_ex p.2
        obtain ⟨m, rfl⟩ : ∃ m, n = m + 1 := ⟨n - 1, by have : PyData.depthAll ds + 1 ≤ n := hdep; omega⟩
        have dm : d.depth ≤ m := by
          have : PyData.depthAll ds + 1 ≤ m + 1 := hdep
          omega
        refine ⟨rfl, ?_⟩
        refine ⟨_, rfl, _, rfl, .inr (.inl ⟨pv_, vs, _, a, rfl, rfl, xp.tup sv, at_of (j := i) (by omega) ha, _, rfl, _, rfl, .inr (.inl ⟨pu, us, _, b, rfl, rfl, xp.tup su, at_of (j := i) (by omega) hb, ?_⟩)⟩)⟩
        refine ⟨m, rfl, a, b, d, H0, rfl, p.2.inn, dp_up xp _ _ da, dp_up xp _ _ db, dm, sm_at hsm.2 hd, fun H2 g2 => ?_⟩
        have hD2 := g2.keep _ _ p.1 (fun z => z)
        refine ⟨_, hD2, mem_lt (by have := hsm.1; rw [List.length_replicate]; omega), ?_, (p.2.then g2).turn _ (g1.fresh hD) (g1.fresh0 hD)⟩
        rw [upd_same, List.replicate_succ']
      · have pn : H1 D = some (.lst ((List.replicate us.length true).map V.bl)) := by rw [p.1, List.map_replicate]
        refine ⟨D, _, rfl, SqL.of pn, ?_⟩
        rw [all_rep]
        exact q _ p.2
theorem ok_same {f : Addr} {fd : FuncData} (F : Fun K "_law_same" "_law_same" s_same f fd) (bF : L2.Binds K fd ["_law_found", "_law_due"] []) (gF : mg "_law_same" = some (.ref f)) (m_isinstance : mg "isinstance" = none) (m_bool : mg "bool" = none) (m_int : mg "int" = none) (m_str : mg "str" = none)
    (m_list : mg "list" = none) (m_tuple : mg "tuple" = none) (m_len : mg "len" = none) (m_all : mg "all" = none) (m_range : mg "range" = none) : ∀ n, FnOk P w K mg base CX0 (n + 1) f fd ["_law_found", "_law_due"] (spSame K n)
  | 0 => same_step 0 F ⟨f, fd, _, _, gF, ⟨fun _ _ _ _ ⟨_, e, _⟩ => by omega, fun _ _ _ _ _ _ _ _ _ _ _ _ _ ⟨_, e, _⟩ => by omega⟩, F.kp, bF, .nil⟩ m_isinstance m_bool m_int m_str m_list m_tuple m_len m_all m_range
  | n + 1 => same_step (n + 1) F ⟨f, fd, _, _, gF, (ok_same F bF gF m_isinstance m_bool m_int m_str m_list m_tuple m_len m_all m_range n).imp fun vs H Q E ⟨m, e, h⟩ => by
      obtain rfl : m = n := by omega
      exact h, F.kp, bF, .nil⟩ m_isinstance m_bool m_int m_str m_list m_tuple m_len m_all m_range
end
end Rt

namespace Rt
open PySem PySem.Spec PyProof.Rows L2 RZ TL
section
variable {P : Program} {w : World} {K : PySem.W.Frag} {mg : Str → Option Value} {base : Heap}
abbrev s_tape_init : Stmt := inClass (topS 1) 0
theorem sc_tape_init : FnScope ["self", "why", "name"] ["self", "why"] (defScope s_tape_init) := ⟨rfl, rfl, rfl, by decide +kernel, rfl, by decide +kernel, by decide +kernel⟩
theorem ok_tape_init {f : Addr} {fd : FuncData} {dvs : List V} (F : FunD K "__init__" "TapeError.__init__" (defArgs s_tape_init) (defBody s_tape_init) (defScope s_tape_init) dvs [] f fd) (m_VE : mg "ValueError" = none)
    (vV : PySem.W.findCls K (.type "ValueError") (.type "type") "__init__" = some (.val (.builtin "ValueError.__init__"))) : FnOk P w K mg base CX0 1 f fd ["self", "why"] (spInit K) := by
  refine okD0 F sc_tape_init (fun vs H Q E h => ?_) (fun cdv A outer s H vs Q E hr h => ?_)
  · obtain ⟨a, C, why, z, rfl, _⟩ := h
    rfl
  · refine ⟨_, pss_cons (ps_expr (pe_veinit rfl m_VE vV (pa_cons (pv 0) (pa_cons (pv 1) pa_nil)))) (pss_cons (ps_set (i := 2) sc_tape_init.nd rfl (Or.inl rfl) (pe_cn (pv 0))) (pss_one (ps_ost (pv 0) (pe_lower (pv 2))))), ?_⟩
    obtain ⟨a, C, why, z, rfl, T1, T2, T3, T4, hz, ha, q⟩ := h
    refine ⟨_, rfl, _, rfl, a, C, _, rfl, (by show 1 ≤ 1000; decide), T1, ha, ?_⟩
    refine ⟨_, rfl, a, C, z, rfl, T2, T3, ha, ?_⟩
    refine ⟨_, rfl, ⟨_, rfl⟩, _, rfl, rfl, by omega, ?_⟩
    exact ⟨_, rfl, a, C, rfl, T1, T4, .inl ⟨ha, fun dx h1 h2 => q dx h1 h2⟩⟩
abbrev s_tried : Stmt := topS 25
theorem sc_tried : FnScope ["_law_ask", "_law_found", "_law_word_here", "e"] ["_law_ask"] (defScope s_tried) := ⟨rfl, rfl, rfl, by decide +kernel, rfl, by decide +kernel, by decide +kernel⟩
/-- what _law_tried makes of its lambda: a new pair (what is told, "") or (None, the error's word) -/
def TTried (K : PySem.W.Frag) (mg : Str → Option Value) : (XK → Hp → VK → Prop) → Hp → VK → Prop := fun tl H Q =>
  tl (fun cls d H' => ∃ (word : Str) (tape : Bool) (Hb : Hp), Raised K mg word tape Hb cls d H' ∧ ∀ p, H' p = none → Q (.ref p) (upd H' p (.tup [.non, .str word]))) H
    (fun v H' => ∀ p, H' p = none → Q (.ref p) (upd H' p (.tup [v, .str ""])))
theorem asks_tried {X : Cx} {g CT CM : Addr} {cdg : Value} {q : Str} (g1 : X.mg "TapeError" = some (.ref CT)) (g2 : X.mg "MissingError" = some (.ref CM)) :
    Asks X ["_law_ask", "_law_found", "_law_word_here", "e"] "_law_tried" (defScope s_tried) g cdg (defBody s_tried) "_law_ask" q (TTried X.K X.mg) := by
  intro f c' s H Q tl act hc h
  refine ⟨_, pss_cons (ps_set (i := 1) sc_tried.nd rfl (Or.inl rfl) pe_non) (pss_cons (ps_set (i := 2) sc_tried.nd rfl (Or.inl rfl) pe_str)
    (pss_cons (ps_try_all (i := 3) (tb := fun W => tAsg (fun τ G Q => τ[0]? = some (some (.ref f)) ∧ G c' = some (LamX.CodeO c' q) ∧ ∃ (Ec : XK) (R : VK), (∀ cls d G', Ec cls d G' → W cls d τ G') ∧ (∀ v G', R v G' → Q v G') ∧ tl Ec G R) (gName 1)) (W0 := fun _ _ _ _ => False)
        rfl rfl sc_tried.nd rfl rfl takes0 (fun W pn xe tk _ => pss_one (ps_set (i := 1) sc_tried.nd rfl (Or.inl rfl) (act W pn xe _ _ tk)))
        (.cons (c := .ref CT) ⟨rfl, by decide, .inl g1⟩ (fun a oe cls d pn hz hf => pss_one (ps_set (i := 2) sc_tried.nd rfl (Or.inl rfl) (pe_xfA hz hf (pv 3))))
          (.cons (c := .ref CM) ⟨rfl, by decide, .inl g2⟩ (fun a oe cls d pn hz hf => pss_one (ps_set (i := 2) sc_tried.nd rfl (Or.inl rfl) (pe_xfA hz hf (pv 3)))) .nil)))
      (pss_one (ps_ret (pe_tup (pa_cons (pv 1) (pa_cons (pv 2) pa_nil))))))), ?_⟩
  refine ⟨rfl, hc, _, _, ?_, ?_, h⟩
  · rintro cls d G' ⟨word, tape, Hb, R, k⟩
    obtain ⟨C, CT', CM', dd, rfl, rfl, hdd, rfl, xf, nc, h1, h2, m1, m2⟩ := R.ex
    obtain rfl : CT' = CT := by rw [h1] at g1; cases g1; rfl
    obtain rfl : CM' = CM := by rw [h2] at g2; cases g2; rfl
    have tail : ∀ a : Addr, (fun σ H (Q : VK) => ∃ C2, XfC X.K C2 ∧ PySem.W.findIn X.K (.ref C2) "called" = some none ∧ tXf a (.ref C) (some dd) C2 "called" (tVar 3) σ H Q) ([some (.ref f), some .non, some (.str ""), some (.ref a)] : L2.St) (upd Hb dd (.xd [("called", .str word)]))
        (fun x H1 => tRet (tTup (tCons (tVar 1) (tCons (tVar 2) tNil))) { nx := fun _ H' => Q .non H', rt := Q } [some (.ref f), some .non, some x, none] H1) := fun a =>
      ⟨C, xf, nc, _, rfl, rfl, rfl, dd, _, _, rfl, upd_same, rfl, _, rfl, _, rfl, (by show 2 ≤ sizeLine; decide), fun p hp => k p hp⟩
    refine ⟨tape, m1, fun _ a ha => tail a, fun ht => ⟨true, m2 ht, fun _ a ha => tail a, fun z => nomatch z⟩⟩
  · intro v G' hv
    exact ⟨_, rfl, _, rfl, (by show 2 ≤ sizeLine; decide), fun p hp => hv p hp⟩
abbrev s_law_k32 : Stmt := topS 33
theorem sc_law_k32 : FnScope ["_law_script", "_law_draw", "_law_track", "_law_handed", "_law_turn", "_law_near", "_law_tick_here", "_law_again", "_law_stand", "_law_word_here", "_law_due", "_law_event"] ["_law_script"] (defScope s_law_k32) := ⟨rfl, rfl, rfl, by decide +kernel, rfl, by decide +kernel, by decide +kernel⟩
def spLaw (K : PySem.W.Frag) (T : List (Addr × Str)) : Sp := fun vs H Q _ => ∃ (a : Addr) (ns : List Int), vs = [.ref a] ∧ SqL K H a (ns.map V.int) ∧ LamX.Tabs T H ∧ ∀ H', Q (.bl true) H'
def lamQ : Str := (envOfC "law" (defScope s_law_k32) 0 0 Value.none).qual ++ "<lambda>"
theorem map_ok {es : List Evt} (h : ∀ e ∈ es, e.Ok) : ∀ xs ∈ es.map Evt.v, Okx xs := fun xs hx => by
  obtain ⟨e, he, rfl⟩ := List.mem_map.mp hx
  exact (h e he).okx.1
theorem Go.weak0 {m : Addr → Prop} {H0 H G H' : Hp} (g : Go m H0 H G H') : Go m H0 H H0 H' := ⟨Ex.refl _, g.up.trans g.inn, fun _ _ h => h, g.keep, g.there⟩
theorem Dr.exU {S H H' : Hp} {d : Addr} (x : Dr S H d) (e : Ex H H') : Dr S H' d := by
  obtain ⟨⟨a, ns, i, j, k, l, h1, h2⟩, n⟩ := x
  exact ⟨⟨a, ns, i, j, k, l, e _ _ h1, h2⟩, n⟩
theorem rws_dep : ∀ rs : List (List Int), PyData.depthAll (rs.map fun r => PyData.tuple (r.map .int)) ≤ 1
  | [] => by show 0 ≤ 1; decide
  | r :: rs => by
    have h0 : ∀ l : List Int, PyData.depthAll (l.map PyData.int) = 0 := fun l => by
      induction l with
      | nil => rfl
      | cons x l ih =>
        show max 0 (PyData.depthAll (l.map PyData.int)) = 0
        rw [ih]
        rfl
    have ih := rws_dep rs
    show max (PyData.depthAll (r.map PyData.int) + 1) (PyData.depthAll (rs.map fun r => PyData.tuple (r.map .int))) ≤ 1
    rw [h0 r]
    omega
theorem rws_smA : ∀ {rs : List (List Int)} {d : Nat}, RowsB d rs → d ≤ 100 → smAll (rs.map fun r => PyData.tuple (r.map .int))
  | [], _, _, _ => True.intro
  | r :: rs, d, h, hd => by
    have h0 : ∀ l : List Int, smAll (l.map PyData.int) := fun l => by
      induction l with
      | nil => exact True.intro
      | cons x l ih => exact ⟨True.intro, ih⟩
    refine ⟨⟨?_, h0 r⟩, rws_smA (fun x hx => h x (.tail _ hx)) hd⟩
    rw [List.length_map, (h r (.head _)).1]
    omega
theorem staD_ok {st : Sta} {n : Nat} (h : st.Ok n) (hn : n ≤ 1000) : (staD st).depth ≤ 3 ∧ smA (staD st) := by
  have h1 := rws_dep st.snd
  have h2 := rws_dep st.knb
  have h3 := rws_dep st.voi
  have l1 := h.l1
  have l2 := h.l2
  have l3 := h.l3
  refine ⟨?_, (by show 3 ≤ 100000; decide), ⟨by rw [List.length_map]; omega, rws_smA h.b1 (by decide)⟩, ⟨by rw [List.length_map]; omega, rws_smA h.b2 (by decide)⟩, ⟨by rw [List.length_map]; omega, rws_smA h.b3 (by decide)⟩, True.intro⟩
  show max (PyData.depthAll (st.snd.map fun r => PyData.tuple (r.map .int)) + 1) (max (PyData.depthAll (st.knb.map fun r => PyData.tuple (r.map .int)) + 1) (max (PyData.depthAll (st.voi.map fun r => PyData.tuple (r.map .int)) + 1) 0)) + 1 ≤ 3
  omega
open LamX in
theorem ok_law {f cc tb gWr CT CM C : Addr} {fd fdW : FuncData} (F : Fun K "law" "law" s_law_k32 f fd) (hcode : fd.code = .ref cc) (TB : TabB base mg cc tb) (D__law_begin : Def P w K mg base "_law_begin" 1 (spBegin K)) (D__law_pick : Def P w K mg base "_law_pick" 1 spPick) (D__law_one : Def P w K mg base "_law_one" 2 spOne)
    (D__law_keen_track : Def P w K mg base "_law_keen_track" 4 spKeen) (D__law_tick : Def P w K mg base "_law_tick" 2 (spInts 0 999999)) (D__law_far : Def P w K mg base "_law_far" 2 spFar) (D_stand_at : DefX P w K mg base "stand_at" 5 (spStandAtX K mg C)) (D__law_silent : Def P w K mg base "_law_silent" 1 spSilent) (D__law_up_to : Def P w K mg base "_law_up_to" 1 spUpToM) (D__law_behind : Def P w K mg base "_law_behind" 2 spBehind) (D__law_parts : Def P w K mg base "_law_parts" 2 (spParts K)) (D__law_told_parts : Def P w K mg base "_law_told_parts" 2 (spToldParts K C)) (D__law_same : Def P w K mg base "_law_same" 4 (spSame K 3))
    (FW : Fun K "_law_tried" "_law_tried" s_tried gWr fdW) (gW : mg "_law_tried" = some (.ref gWr)) (bW0 : L2.Binds K fdW ["_law_ask"] []) (g1 : mg "TapeError" = some (.ref CT)) (g2 : mg "MissingError" = some (.ref CM))
    (m_range : mg "range" = none) (m_list : mg "list" = none) : FnOk P w K mg base CX0 8 f fd ["_law_script"] (spLaw K [(tb, lamQ)]) := by
  obtain ⟨ocW, odW, kVW, docW, pmW, anW, cdW, ctW, slW, rfl, lkW, hcW⟩ := id FW.ex
  have bW := bW0
  refine okC F hcode sc_law_k32 (fun vs H Q E h => ?_) (fun A outer s B vs Q E hr h => ?_)
  · obtain ⟨a, ns, rfl, _⟩ := h
    rfl
  · obtain ⟨a, ns, rfl, hS, hT, q⟩ := h
    refine ⟨_, (pss_cons (ps_set (i := 1) sc_law_k32.nd rfl (Or.inl rfl) (pe_d D__law_begin (hr.mono (by decide)) rfl (pa_cons (pv 0) pa_nil)))
      (pss_cons (ps_set (i := 2) sc_law_k32.nd rfl (Or.inl rfl) (pe_d D__law_keen_track (hr.mono (by decide)) rfl (pa_cons (pv 1) (pa_cons pe_int pa_nil))))
      (pss_cons (ps_set (i := 3) sc_law_k32.nd rfl (Or.inr rfl) (pe_callTy call_list_of (by rfl) m_list bt_list (pa_cons (pv 2) pa_nil)))
      (pss_cons (ps_for PassesOwn.never rfl (pi_range1 rfl m_range (pa_cons pe_int pa_nil)) (pg_name (i := 4) sc_law_k32.nd rfl (Or.inl rfl)) (pss_cons (ps_set (i := 5) sc_law_k32.nd rfl (Or.inl rfl) (pe_op op_sub (pe_op op_add (pe_d D__law_one (hr.mono (by decide)) rfl (pa_cons (pv 1) (pa_cons (pe_op op_cat (pe_lc (own := [("_law_event", 11)]) (g := gName 11) (tt := tYes) rfl sc_law_k32.nd (pi_list (pv 2)) (blkOk_by (N := ["_law_script", "_law_draw", "_law_track", "_law_handed", "_law_turn", "_law_near", "_law_tick_here", "_law_again", "_law_stand", "_law_word_here", "_law_due", "_law_event"]) (sc := defScope s_law_k32) (by decide +kernel)) (fun _ _ _ _ _ => pg_name (i := 11) sc_law_k32.nd rfl (Or.inl rfl)) (fun _ _ _ _ _ => pts_nil) (fun _ _ _ _ _ => (pe_ix (r := rIxT K) ix_tup (pv 11) pe_int (fun _ _ => rfl)))) (pe_lst (pa_cons pe_int pa_nil))) pa_nil))) (pe_d D__law_pick (hr.mono (by decide)) rfl (pa_cons (pv 1) (pa_cons pe_int pa_nil)))) pe_int))
      (C8.pss_cut (ps_set (i := 6) sc_law_k32.nd rfl (Or.inr rfl) (pe_d D__law_one (hr.mono (by decide)) rfl (pa_cons (pv 1) (pa_cons (pe_lst (pa_cons (pv 5) (pa_cons (pv 5) (pa_cons (pe_d D__law_tick (hr.mono (by decide)) rfl (pa_cons (pv 1) pa_nil)) (pa_cons (pe_d D__law_far (hr.mono (by decide)) rfl (pa_cons (pv 1) pa_nil)) (pa_cons (pe_op op_pow pe_int pe_int) pa_nil)))))) pa_nil))))
      (pss_one (ps_for PassesOwn.never rfl (pi_range1 rfl m_range (pa_cons pe_int pa_nil)) (pg_name (i := 7) sc_law_k32.nd rfl (Or.inl rfl)) (pss_cons (ps_asg (pe_up (pe_asks (T := [(tb, lamQ)]) rfl gW FW.kp lkW hcW bW sc_tried rfl (Or.inl rfl) (asks_tried g1 g2) TB rfl (List.mem_singleton.mpr rfl) (fun p hp _ => by have e := List.mem_singleton.mp hp; subst e; rfl) (hr.mono (by decide)) (show LamX.LamS (defScope s_law_k32) _ from lamS_by (by decide +kernel)) rfl (fun _ _ _ _ _ => rfl) (fun E A outer s H f c2 hr2 => pe_dx D_stand_at hr2 rfl (takes_of rfl rfl rfl rfl) (pa_cons (pv 3) (pa_cons (pv 6) pa_nil))))) (pg_tup rfl (pgs_cons (pg_name (i := 8) sc_law_k32.nd rfl (Or.inl rfl)) (pgs_cons (pg_name (i := 9) sc_law_k32.nd rfl (Or.inl rfl)) pgs_nil))))
      (pss_one (ps_if (pt_chain op_le op_le pe_int (pv 6) pe_int) (pss_cons (ps_set (i := 10) sc_law_k32.nd rfl (Or.inl rfl) (pe_d D__law_parts (hr.mono (by decide)) rfl (pa_cons (pe_d D__law_behind (hr.mono (by decide)) rfl (pa_cons (pe_d0 D__law_silent (hr.mono (by decide)) rfl) (pa_cons (pe_d D__law_up_to (hr.mono (by decide)) rfl (pa_cons (pv 2) (pa_cons (pv 6) pa_nil))) pa_nil))) pa_nil)))
      (pss_one (ps_if (PW.pt (pw_or (pt_cmpR op_ne (pv 9) pe_str (nomark _)) (pw_or1 (pt_not (pt_val (pe_d D__law_same (hr.mono (by decide)) rfl (pa_cons (pe_d D__law_told_parts (hr.mono (by decide)) rfl (pa_cons (pv 8) pa_nil)) (pa_cons (pv 10) pa_nil)))))))) (pss_one (ps_ret pe_bl)) pss_nil))) (pss_one (ps_if (pt_cmpR op_ne (pv 9) pe_str (nomark _)) (pss_one (ps_ret pe_bl)) pss_nil))))))))))
      (pss_one (ps_ret (pe_cmpR (op_eqD hr.units) (pv 3) (pv 2) (nomark _)))))))), ?_⟩
    refine ⟨_, rfl, a, ns, fun _ => none, rfl, hS, (fun b o z => by cases z), fun d H0 H1 gA hD _ => ?_⟩
    have hT := hT.ext fun b o h => gA.keep b o h fun z => z
    have S := Sd.here gA.inn hD
    refine ⟨_, rfl, d, 40, _, rfl, by decide, S.ex, S.dr, fun p ps es G H g hD2 np hp h0 hev hl hok hrise => ?_⟩
    have hT := tabs_go hT S.dr g
    have T : TrS d H0 H1 p ps (es.map Evt.v) G H := ⟨S.call g hD2, hp, h0, hev, hD.ne np⟩
    have S2 := T.S.set np T.hp T.h0 T.np
    have hev2 := T.hev.up (Ex.new (o := .lst (ps.map V.ref)) T.h0)
    have T : KS d H0 H1 [(tb, lamQ)] p ps (es.map Evt.v) (upd G p (.lst (ps.map V.ref))) H := ⟨S2, upd_same, hev2, hT⟩
    clear S2 hev2 hT g hD2 hp h0 hev S
    generalize upd G p (.lst (ps.map V.ref)) = G at *
    -- handed = list(track)
    refine ⟨.ref p, rfl, p, _, rfl, .inl (SqL.of (T.S.ex _ _ T.hp)), fun hd hh => ?_⟩
    have hhd := upd_same (H := G) (a := hd) (o := HO.lst (ps.map V.ref))
    have T := T.put (.lst (ps.map V.ref)) hh
    generalize upd G hd (.lst (ps.map V.ref)) = G1 at *
    generalize upd H hd (.lst (ps.map V.ref)) = H2 at *
    have hhd := clean_at hhd (fun ps z => nomatch z)
    have T := T.clean
    have nG := clean_no G1
    generalize clean G1 = G1 at *
    have hokx := map_ok hok
    have lp : (ps.map V.ref).length = es.length := by rw [List.length_map, T.hev.len]
    have hpG := T.hp
    have hevG := T.hev
    refine ⟨10, rfl, by decide, by decide, for_range (lo := 0) (n := 10) (fun i σ H' => ∃ (v4 v5 v6 v7 v8 v9 v10 v11 : Option V) (A0 : Hp), σ = [some (.ref a), some (.ref d), some (.ref p), some (.ref hd), v4, v5, v6, v7, v8, v9, v10, v11] ∧ Ex G1 A0 ∧ NoTab A0 ∧ Ex A0 H' ∧ Dr A0 H' d ∧ Tabs [(tb, lamQ)] H')
      ⟨none, none, none, none, none, none, none, none, G1, rfl, Ex.refl _, nG, T.S.ex, T.S.dr, T.hT⟩ ?_ ?_⟩
    · clear T nG hh
      rintro i σ B0 hi ⟨v4, v5, v6, v7, v8, v9, v10, v11, A0, rfl, xA, nA, eA, dA, hT⟩
      have T : KS d A0 B0 [(tb, lamQ)] p ps (es.map Evt.v) A0 B0 := ⟨Sd.here eA dA, xA _ _ hpG, hevG.up xA, hT⟩
      clear hT
      have dD := fun {D : Addr} (hD : B0 D = none) => T.S.dr.ne hD
      have bD := fun {D : Addr} (hD : B0 D = none) => T.S.go.fresh hD
      -- near
      refine ⟨_, rfl, _, rfl, p, rfl, ⟨_, SqL.of (T.S.ex _ _ T.hp)⟩, fun D hD => lc_list (xs := ps.map V.ref) (fun j H' => H' D = some (.lst (((es.take j).map Evt.tick).map V.int)) ∧ KS d A0 B0 [(tb, lamQ)] p ps (es.map Evt.v) A0 H')
        ⟨upd_same, T.lay _ hD⟩ (fun j H' _ ⟨_, T'⟩ => SqL.of (T'.S.ex _ _ T'.hp)) (fun j x H' hj hp => ?_) (fun H' hp => ?_)⟩
      · obtain ⟨h1, T'⟩ := hp
        obtain ⟨q1, e, rfl, hq, he, hqx⟩ := evs_at T'.hev hj
        have hjl := (List.getElem?_eq_some_iff.mp he).1
        refine ⟨rfl, ?_⟩
        refine ⟨_, rfl, q1, _, _, _, rfl, rfl, SqT.of (T'.S.ex _ _ hqx), at_of (j := 0) rfl (v_tick e), _, h1, mem_lt (by rw [List.length_map, List.length_map, List.length_take]; omega), ?_, ⟨T'.S.turn _ (bD hD) (T.S.ex.free hD) (dD hD), T'.hp, T'.hev, tabs_but T'.hT h1 fun b o h nb => (upd_ne nb).trans h⟩⟩
        rw [upd_same, take_snoc he, List.map_append, List.map_append]
        rfl
      · obtain ⟨h1, T'⟩ := hp
        rw [lp, List.take_length] at h1
        have T : KS d A0 B0 [(tb, lamQ)] p ps (es.map Evt.v) (upd A0 D (.lst ((es.map Evt.tick).map V.int))) H' := ⟨T'.S.set (bD hD) h1 (T.S.ex.free hD) (dD hD), upPut (T.S.ex.free hD) T'.hp, T'.hev.up (Ex.new (T.S.ex.free hD)), T'.hT⟩
        have hDD := upd_same (H := A0) (a := D) (o := HO.lst ((es.map Evt.tick).map V.int))
        generalize upd A0 D (.lst ((es.map Evt.tick).map V.int)) = G at *
        clear hD h1 T' dD bD
        refine ⟨(by show 1 ≤ sizeLine; decide), fun z hz => ?_⟩
        have hDD := upPut (o := .lst [.int 0]) (T.S.ex.free hz) hDD
        have hzz := upd_same (H := G) (a := z) (o := HO.lst [.int 0])
        have T := T.put (.lst [.int 0]) hz
        refine ⟨D, z, _, _, rfl, rfl, T.S.ex _ _ hDD, T.S.ex _ _ hzz, mem_sz (by rw [List.length_map, List.length_map]; show _ + 1 ≤ _; omega), fun l hl1 => ?_⟩
        have T := T.put (.lst ((es.map Evt.tick).map V.int ++ [.int 0])) hl1
        refine ⟨d, l, _, _, rfl, T.S.ex, T.S.dr, upd_same, (by rw [List.length_append]; show 0 < _ + 1; omega), (by rw [List.length_append, List.length_map, List.length_map]; show _ + 1 ≤ _; omega), fun k w5 H hk g hD => ?_⟩
        have T := T.call g hD
        obtain ⟨y, rfl, y0, y1⟩ : ∃ y : Int, w5 = .int y ∧ 0 ≤ y ∧ y ≤ 999999 := by
          rcases List.mem_append.mp (List.mem_of_getElem? hk) with h | h
          · obtain ⟨x, hx, rfl⟩ := List.mem_map.mp h
            obtain ⟨e, he, rfl⟩ := List.mem_map.mp hx
            exact ⟨_, rfl, (hok e he).tk⟩
          · exact ⟨0, List.mem_singleton.mp h, by decide, by decide⟩
        clear g hD hk
        refine ⟨_, rfl, d, 3, _, rfl, by decide, by decide, T.S.ex, T.S.dr, fun u H u0 u1 g hD => ?_⟩
        have T := T.call g hD
        clear g hD
        refine ⟨_, _, rfl, rfl, _, _, rfl, rfl, ?_⟩
        dsimp (config := {proj := false}) only
        generalize hnr : y + u - 1 = nr
        -- tick_here
        refine ⟨fun σ H' => ∃ (G : Hp) (tk : Int), σ = [some (.ref a), some (.ref d), some (.ref p), some (.ref hd), some (.int (0 + (i : Int))), some (.int nr), some (.int tk), v7, v8, v9, v10, v11] ∧ KS d A0 B0 [(tb, lamQ)] p ps (es.map Evt.v) G H' ∧ Ex A0 G ∧ tk.natAbs < 10 ^ 40, ?_, ?_⟩
        · refine ⟨_, rfl, _, rfl, _, rfl, _, rfl, d, _, rfl, T.S.ex, T.S.dr, fun r G H r0 r1 g hD => ?_⟩
          have T := T.call g hD
          refine ⟨_, rfl, d, _, rfl, T.S.ex, T.S.dr, fun z G H zb g hD => ?_⟩
          have T := T.call g hD
          refine ⟨_, _, rfl, rfl, ⟨by decide, by decide, by decide⟩, (by show 5 ≤ sizeLine; decide), fun l5 hl5 => ?_⟩
          have T := T.put (.lst [.int nr, .int nr, .int r, .int z, .int ((10 : Int) ^ (6 : Int).toNat)]) hl5
          refine ⟨d, l5, _, _, rfl, T.S.ex, T.S.dr, upd_same, (by show 0 < 5; decide), (by show 5 ≤ 1000000000; decide), fun k w5 H hk g hD => ?_⟩
          have T := T.call g hD
          have b2 : (10 : Nat) ^ 30 = 1000000000000000000000000000000 := by decide
          have b3 : (10 : Nat) ^ 40 = 10000000000000000000000000000000000000000 := by decide
          obtain ⟨tk, rfl, ht⟩ : ∃ tk : Int, w5 = .int tk ∧ tk.natAbs < 10 ^ 40 := by
            match k, hk with
            | 0, hk => exact ⟨_, (Option.some.inj hk).symm, by omega⟩
            | 1, hk => exact ⟨_, (Option.some.inj hk).symm, by omega⟩
            | 2, hk => exact ⟨_, (Option.some.inj hk).symm, by omega⟩
            | 3, hk => exact ⟨_, (Option.some.inj hk).symm, by omega⟩
            | 4, hk => exact ⟨_, (Option.some.inj hk).symm, by decide⟩
            | k + 5, hk => simp at hk
          exact ⟨_, tk, rfl, T, T.S.go.up, ht⟩
        · clear T
          rintro σ H ⟨G, tk, rfl, T, xG, htk⟩
          have T := T.clean
          have nS := clean_no G
          have xS : Ex A0 (clean G) := fun b o h => clean_at (xG b o h) fun ps z => nA b ps (z ▸ h)
          generalize clean G = S at *
          have xS := xA.trans xS
          refine ⟨2, rfl, by decide, by decide, for_range (lo := 0) (n := 2) (fun _ σ H' => ∃ (v7 v8 v9 v10 : Option V), σ = [some (.ref a), some (.ref d), some (.ref p), some (.ref hd), some (.int (0 + (i : Int))), some (.int nr), some (.int tk), v7, v8, v9, v10, v11] ∧ Ex S H' ∧ Dr S H' d ∧ Tabs [(tb, lamQ)] H')
            ⟨v7, v8, v9, v10, rfl, T.S.ex, T.S.dr, T.hT⟩ ?_ ?_⟩
          · clear T
            rintro k2 σ H3 hk2 ⟨v7, v8, v9, v10, rfl, eS, dS, hT⟩
            have hhS := xS _ _ hhd
            have hpS := xS _ _ hpG
            have hevS := hevG.up xS
            -- stand, word = tried(lambda: stand_at(handed, tick_here))
            refine ⟨fun v H' => ∃ (t : Addr) (u : V) (wd : Str), v = .ref t ∧ H' t = some (.tup [u, .str wd]) ∧ Ex S H' ∧ Dr S H' d ∧ Tabs [(tb, lamQ)] H' ∧ (0 ≤ tk ∧ tk ≤ 999999 → wd = "" ∧ ∃ o, u = .ref o ∧ StaAt C H' o (staAt es tk)) ∧ (¬ (0 ≤ tk ∧ tk ≤ 999999) → wd = "badtick"), ⟨hT, fun H1 eN hT1 => ?_⟩, fun v H' hq => ?_⟩
            · have xb := eS.extN nS eN
              have db := dS.extN eN
              refine ⟨_, rfl, _, rfl, hd, tk, ps, es, S, rfl, xb, hhS, hevS, by omega, hok, htk, fun c cls dd H' R => ⟨_, true, _, R, fun t ht => ?_⟩, fun t0 t1 o G2 H' g no hst t ht => ?_⟩
              · obtain ⟨CC, CT', CM', dd', _, _, hdd, rfl, _⟩ := R.ex
                exact ⟨t, .non, "badtick", rfl, upd_same, (xb.lay _ hdd).lay _ ht, (db.lay _ hdd).lay _ ht, tabs_new (tabs_new hT1 hdd) ht, fun z => absurd z c, fun _ => rfl⟩
              · have gw := g.weak0
                exact ⟨t, .ref o, "", rfl, upd_same, gw.inn.lay _ ht, (db.go gw fun z => z).lay _ ht, tabs_new (hT1.ext (go_ex gw)) ht, fun _ => ⟨rfl, o, rfl, hst.up (g.inn.trans (Ex.new ht))⟩, fun c => absurd ⟨t0, t1⟩ c⟩
            · clear eS dS hT
              obtain ⟨t, u, wd, rfl, ht, eS, dS, hT, hin, hout⟩ := hq
              refine ⟨t, _, rfl, SqT.of ht, rfl, _, _, rfl, _, _, rfl, rfl, ?_⟩
              refine ⟨_, rfl, _, _, rfl, rfl, _, rfl, ?_⟩
              by_cases c : 0 ≤ tk ∧ tk ≤ 999999
              · refine ifT (decide_eq_true c.1) ⟨_, _, rfl, rfl, _, rfl, ifT (decide_eq_true c.2) ?_⟩
                obtain ⟨rfl, o, rfl, hst⟩ := hin c
                have ul : (upTo es tk).length ≤ 40 := Nat.le_trans (List.length_filter_le _ _) hl
                have uok : ∀ e ∈ upTo es tk, e.Ok := fun e he => hok e (List.mem_filter.mp he).1
                obtain ⟨B1, I1⟩ := dmOf_ok uok (upTo es tk).length (Nat.le_refl _)
                rw [List.take_length] at B1 I1
                have sok := behind_ok (upTo es tk) uok
                have hpH := eS _ _ hpS
                have hevH := hevS.up eS
                refine ⟨_, rfl, Ex.refl _, fun m Gm H5 g5 hm => ?_⟩
                have x5 := g5.up.trans g5.inn
                refine ⟨_, rfl, _, rfl, p, tk, ps, es, H5, rfl, Ex.refl _, x5 _ _ hpH, hevH.up x5, by omega, fun r qs H6 g6 n6 hr6 he6 => ?_⟩
                have x6 := g6.inn
                refine ⟨m, r, qs, upTo es tk, H6, rfl, Ex.refl _, (hm.up g5.inn).up x6, hr6, he6.up x6, by omega, uok, fun b Gb H7 g7 hb => ?_⟩
                have x7 := g7.up.trans g7.inn
                refine ⟨b, dmOf (upTo es tk), staAt es tk, (upTo es tk).length, H7, rfl, Ex.refl _, hb.up g7.inn, I1, B1, by omega, Nat.le_trans sok.l1 (by omega), fun du H8 g8 hdu => ?_⟩
                have x8 := g8.inn
                refine ⟨_, rfl, rfl, _, rfl, ?_⟩
                refine ifF (by decide +kernel) ?_
                have xx := x5.trans (x6.trans (x7.trans x8))
                refine ⟨_, rfl, o, staAt es tk, H8, rfl, Ex.refl _, hst.up xx, fun tp H9 g9 htp => ?_⟩
                obtain ⟨dep, sm⟩ := staD_ok sok (by omega)
                refine ⟨_, rfl, .ref tp, .ref du, staD (staAt es tk), H9, rfl, Ex.refl _, htp, dp_up g9.inn _ _ hdu, dep, sm, fun H10 g10 => ?_⟩
                have xy := xx.trans (g9.inn.trans g10.inn)
                refine ⟨true, rfl, ifF rfl ?_⟩
                exact ⟨_, _, _, _, rfl, eS.trans xy, dS.exU xy, hT.ext xy⟩
              · have ho := hout c
                subst ho
                by_cases c1 : 0 ≤ tk
                · refine ifT (decide_eq_true c1) ⟨_, _, rfl, rfl, _, rfl, ifF (decide_eq_false fun z => c ⟨c1, z⟩) ?_⟩
                  refine ⟨_, rfl, rfl, _, rfl, ifF (by decide +kernel) ?_⟩
                  exact ⟨_, _, _, _, rfl, eS, dS, hT⟩
                · refine ifF (decide_eq_false c1) ⟨_, rfl, ifF rfl ?_⟩
                  refine ⟨_, rfl, rfl, _, rfl, ifF (by decide +kernel) ?_⟩
                  exact ⟨_, _, _, _, rfl, eS, dS, hT⟩
          · clear T
            rintro σ H3 ⟨v7, v8, v9, v10, rfl, eS, dS, hT⟩
            exact ⟨_, _, _, _, _, _, _, _, S, rfl, xS, nS, eS, dS, hT⟩
    · rintro σ H ⟨v4, v5, v6, v7, v8, v9, v10, v11, A0, rfl, xA, nA, eA, dA, hT⟩
      refine ⟨_, rfl, _, rfl, trackD (es.map Evt.v), trackD (es.map Evt.v), dp_track (eA _ _ (xA _ _ hhd)) (hevG.up (xA.trans eA)) hokx, dp_track (eA _ _ (xA _ _ hpG)) (hevG.up (xA.trans eA)) hokx, track_shaped hokx, track_shaped hokx, ?_⟩
      rw [track_eq hokx]
      exact q H
end
end Rt

namespace Rt
open PySem PySem.Spec PyProof.Rows L2
section
variable {P : Program} {w : World} {K : PySem.W.Frag} {mg : Str → Option Value} {base : Heap}
end
theorem all_mk {l : PySem.W.OpenLaw} {w : World} {K : PySem.W.Frag} {h : Heap} {mg : Str → Option Value} {fa : Addr} (X : K.In h) (G : h.Ns mainGlobals mg) (hfa : mg "law" = some (.ref fa))
    {C_Stand : Addr} (aC_Stand : PySem.W.nsIn K mainGlobals "Stand" = some (some (.ref C_Stand))) (pg_Stand : PySem.W.plainGet K C_Stand Str.empty = true) (hd_Stand : PySem.W.hasDictIn K C_Stand = true) (po_Stand : PySem.W.plainOver K C_Stand = true)
    (sa_Stand : PySem.W.findIn K (.ref C_Stand) "__setattr__" = some (some (.builtin "object.__setattr__"))) (mk_Stand : PySem.W.makesIn K C_Stand = true) (kc_Stand : PySem.W.keepIn K (.ref C_Stand) = true)
    (nA_Stand_sounds : PySem.W.findIn K (.ref C_Stand) "_sounds" = some none)
    (nA_Stand_knobs : PySem.W.findIn K (.ref C_Stand) "_knobs" = some none)
    (nA_Stand_voices : PySem.W.findIn K (.ref C_Stand) "_voices" = some none)
    {f1 : Addr} {od1 an1 : Option Addr} {sl1 : Array (Option Value)} {oc1 kV1 dc1 pm1 cd1 ct1 : Value}
    (a1 : PySem.W.nsIn K mainGlobals "_law_begin" = some (some (.ref f1)))
    (l1 : K.lookup f1 = some ⟨oc1, od1, .func (PySem.W.fnOf "_law_begin" "_law_begin" (defArgs s_begin) (defBody s_begin) (defScope s_begin) .none kV1 dc1 pm1 an1 cd1 ct1), sl1⟩)
    (c1 : PySem.W.codeIn K cd1 "_law_begin" = true) (k1 : PySem.W.keepIn K (.ref f1) = true)
    {f2 : Addr} {od2 an2 : Option Addr} {sl2 : Array (Option Value)} {oc2 kV2 dc2 pm2 cd2 ct2 : Value}
    (a2 : PySem.W.nsIn K mainGlobals "_law_pick" = some (some (.ref f2)))
    (l2 : K.lookup f2 = some ⟨oc2, od2, .func (PySem.W.fnOf "_law_pick" "_law_pick" (defArgs s_pick) (defBody s_pick) (defScope s_pick) .none kV2 dc2 pm2 an2 cd2 ct2), sl2⟩)
    (c2 : PySem.W.codeIn K cd2 "_law_pick" = true) (k2 : PySem.W.keepIn K (.ref f2) = true)
    {f3 : Addr} {od3 an3 : Option Addr} {sl3 : Array (Option Value)} {oc3 kV3 dc3 pm3 cd3 ct3 : Value}
    (a3 : PySem.W.nsIn K mainGlobals "_law_one" = some (some (.ref f3)))
    (l3 : K.lookup f3 = some ⟨oc3, od3, .func (PySem.W.fnOf "_law_one" "_law_one" (defArgs s_one) (defBody s_one) (defScope s_one) .none kV3 dc3 pm3 an3 cd3 ct3), sl3⟩)
    (c3 : PySem.W.codeIn K cd3 "_law_one" = true) (k3 : PySem.W.keepIn K (.ref f3) = true)
    {f4 : Addr} {od4 an4 : Option Addr} {sl4 : Array (Option Value)} {oc4 kV4 dc4 pm4 cd4 ct4 : Value}
    (a4 : PySem.W.nsIn K mainGlobals "_law_channel" = some (some (.ref f4)))
    (l4 : K.lookup f4 = some ⟨oc4, od4, .func (PySem.W.fnOf "_law_channel" "_law_channel" (defArgs s_channel) (defBody s_channel) (defScope s_channel) .none kV4 dc4 pm4 an4 cd4 ct4), sl4⟩)
    (c4 : PySem.W.codeIn K cd4 "_law_channel" = true) (k4 : PySem.W.keepIn K (.ref f4) = true)
    {f5 : Addr} {od5 an5 : Option Addr} {sl5 : Array (Option Value)} {oc5 kV5 dc5 pm5 cd5 ct5 : Value}
    (a5 : PySem.W.nsIn K mainGlobals "_law_key" = some (some (.ref f5)))
    (l5 : K.lookup f5 = some ⟨oc5, od5, .func (PySem.W.fnOf "_law_key" "_law_key" (defArgs s_key) (defBody s_key) (defScope s_key) .none kV5 dc5 pm5 an5 cd5 ct5), sl5⟩)
    (c5 : PySem.W.codeIn K cd5 "_law_key" = true) (k5 : PySem.W.keepIn K (.ref f5) = true)
    {f6 : Addr} {od6 an6 : Option Addr} {sl6 : Array (Option Value)} {oc6 kV6 dc6 pm6 cd6 ct6 : Value}
    (a6 : PySem.W.nsIn K mainGlobals "_law_word" = some (some (.ref f6)))
    (l6 : K.lookup f6 = some ⟨oc6, od6, .func (PySem.W.fnOf "_law_word" "_law_word" (defArgs s_word) (defBody s_word) (defScope s_word) .none kV6 dc6 pm6 an6 cd6 ct6), sl6⟩)
    (c6 : PySem.W.codeIn K cd6 "_law_word" = true) (k6 : PySem.W.keepIn K (.ref f6) = true)
    {f7 : Addr} {od7 an7 : Option Addr} {sl7 : Array (Option Value)} {oc7 kV7 dc7 pm7 cd7 ct7 : Value}
    (a7 : PySem.W.nsIn K mainGlobals "_law_thing" = some (some (.ref f7)))
    (l7 : K.lookup f7 = some ⟨oc7, od7, .func (PySem.W.fnOf "_law_thing" "_law_thing" (defArgs s_thing) (defBody s_thing) (defScope s_thing) .none kV7 dc7 pm7 an7 cd7 ct7), sl7⟩)
    (c7 : PySem.W.codeIn K cd7 "_law_thing" = true) (k7 : PySem.W.keepIn K (.ref f7) = true)
    {f8 : Addr} {od8 an8 : Option Addr} {sl8 : Array (Option Value)} {oc8 kV8 dc8 pm8 cd8 ct8 : Value}
    (a8 : PySem.W.nsIn K mainGlobals "_law_keen_track" = some (some (.ref f8)))
    (l8 : K.lookup f8 = some ⟨oc8, od8, .func (PySem.W.fnOf "_law_keen_track" "_law_keen_track" (defArgs s_keen_track) (defBody s_keen_track) (defScope s_keen_track) .none kV8 dc8 pm8 an8 cd8 ct8), sl8⟩)
    (c8 : PySem.W.codeIn K cd8 "_law_keen_track" = true) (k8 : PySem.W.keepIn K (.ref f8) = true)
    {f9 : Addr} {od9 an9 : Option Addr} {sl9 : Array (Option Value)} {oc9 kV9 dc9 pm9 cd9 ct9 : Value}
    (a9 : PySem.W.nsIn K mainGlobals "_law_tick" = some (some (.ref f9)))
    (l9 : K.lookup f9 = some ⟨oc9, od9, .func (PySem.W.fnOf "_law_tick" "_law_tick" (defArgs s_tick) (defBody s_tick) (defScope s_tick) .none kV9 dc9 pm9 an9 cd9 ct9), sl9⟩)
    (c9 : PySem.W.codeIn K cd9 "_law_tick" = true) (k9 : PySem.W.keepIn K (.ref f9) = true)
    {f10 : Addr} {od10 an10 : Option Addr} {sl10 : Array (Option Value)} {oc10 kV10 dc10 pm10 cd10 ct10 : Value}
    (a10 : PySem.W.nsIn K mainGlobals "_law_far" = some (some (.ref f10)))
    (l10 : K.lookup f10 = some ⟨oc10, od10, .func (PySem.W.fnOf "_law_far" "_law_far" (defArgs s_far) (defBody s_far) (defScope s_far) .none kV10 dc10 pm10 an10 cd10 ct10), sl10⟩)
    (c10 : PySem.W.codeIn K cd10 "_law_far" = true) (k10 : PySem.W.keepIn K (.ref f10) = true)
    {f11 : Addr} {od11 an11 : Option Addr} {sl11 : Array (Option Value)} {oc11 kV11 dc11 pm11 cd11 ct11 : Value}
    (a11 : PySem.W.nsIn K mainGlobals "_law_same" = some (some (.ref f11)))
    (l11 : K.lookup f11 = some ⟨oc11, od11, .func (PySem.W.fnOf "_law_same" "_law_same" (defArgs s_same) (defBody s_same) (defScope s_same) .none kV11 dc11 pm11 an11 cd11 ct11), sl11⟩)
    (c11 : PySem.W.codeIn K cd11 "_law_same" = true) (k11 : PySem.W.keepIn K (.ref f11) = true)
    {f12 : Addr} {od12 an12 : Option Addr} {sl12 : Array (Option Value)} {oc12 kV12 dc12 pm12 cd12 ct12 : Value}
    {T12 : Addr} {oT12 : Value} {dT12 : Option Addr} {nT12 : Nat} {sT12 : Array (Option Value)} {tk12_0 : Tok}
    {cI12 : Addr} (b12 : PySem.W.nsIn K mainGlobals "TapeError" = some (some (.ref cI12))) (a12 : PySem.W.findIn K (.ref cI12) "__init__" = some (some (.ref f12)))
    (l12 : K.lookup f12 = some ⟨oc12, od12, .func (PySem.W.fnOf "__init__" "TapeError.__init__" (defArgs s_tape_init) (defBody s_tape_init) (defScope s_tape_init) (.ref T12) kV12 dc12 pm12 an12 cd12 ct12), sl12⟩)
    (c12 : PySem.W.codeIn K cd12 "TapeError.__init__" = true) (k12 : PySem.W.keepIn K (.ref f12) = true)
    (t12 : K.lookup T12 = some ⟨oT12, dT12, .seq #[.str "" tk12_0] nT12, sT12⟩)
    {f13 : Addr} {od13 an13 : Option Addr} {sl13 : Array (Option Value)} {oc13 kV13 dc13 pm13 cd13 ct13 : Value}
    (a13 : PySem.W.nsIn K mainGlobals "_law_tried" = some (some (.ref f13)))
    (l13 : K.lookup f13 = some ⟨oc13, od13, .func (PySem.W.fnOf "_law_tried" "_law_tried" (defArgs s_tried) (defBody s_tried) (defScope s_tried) .none kV13 dc13 pm13 an13 cd13 ct13), sl13⟩)
    (c13 : PySem.W.codeIn K cd13 "_law_tried" = true) (k13 : PySem.W.keepIn K (.ref f13) = true)
    {f14 : Addr} {od14 an14 : Option Addr} {sl14 : Array (Option Value)} {oc14 kV14 dc14 pm14 cd14 ct14 : Value}
    (a14 : PySem.W.nsIn K mainGlobals "is_within" = some (some (.ref f14)))
    (l14 : K.lookup f14 = some ⟨oc14, od14, .func (PySem.W.fnOf "is_within" "is_within" (defArgs s_is_within) (defBody s_is_within) (defScope s_is_within) .none kV14 dc14 pm14 an14 cd14 ct14), sl14⟩)
    (c14 : PySem.W.codeIn K cd14 "is_within" = true) (k14 : PySem.W.keepIn K (.ref f14) = true)
    {f15 : Addr} {od15 an15 : Option Addr} {sl15 : Array (Option Value)} {oc15 kV15 dc15 pm15 cd15 ct15 : Value}
    (a15 : PySem.W.nsIn K mainGlobals "need_tick" = some (some (.ref f15)))
    (l15 : K.lookup f15 = some ⟨oc15, od15, .func (PySem.W.fnOf "need_tick" "need_tick" (defArgs s_need_tick) (defBody s_need_tick) (defScope s_need_tick) .none kV15 dc15 pm15 an15 cd15 ct15), sl15⟩)
    (c15 : PySem.W.codeIn K cd15 "need_tick" = true) (k15 : PySem.W.keepIn K (.ref f15) = true)
    {f16 : Addr} {od16 an16 : Option Addr} {sl16 : Array (Option Value)} {oc16 kV16 dc16 pm16 cd16 ct16 : Value}
    (a16 : PySem.W.findIn K (.ref C_Stand) "__init__" = some (some (.ref f16))) (i16 : PySem.W.isFn K (.ref f16) = true)
    (l16 : K.lookup f16 = some ⟨oc16, od16, .func (PySem.W.fnOf "__init__" "Stand.__init__" (defArgs s_sta_init) (defBody s_sta_init) (defScope s_sta_init) .none kV16 dc16 pm16 an16 cd16 ct16), sl16⟩)
    (c16 : PySem.W.codeIn K cd16 "Stand.__init__" = true) (k16 : PySem.W.keepIn K (.ref f16) = true)
    {f17 : Addr} {od17 an17 : Option Addr} {sl17 : Array (Option Value)} {oc17 kV17 dc17 pm17 cd17 ct17 : Value}
    (a17 : PySem.W.nsIn K mainGlobals "sounds_after" = some (some (.ref f17)))
    (l17 : K.lookup f17 = some ⟨oc17, od17, .func (PySem.W.fnOf "sounds_after" "sounds_after" (defArgs s_sounds_after) (defBody s_sounds_after) (defScope s_sounds_after) .none kV17 dc17 pm17 an17 cd17 ct17), sl17⟩)
    (c17 : PySem.W.codeIn K cd17 "sounds_after" = true) (k17 : PySem.W.keepIn K (.ref f17) = true)
    {f18 : Addr} {od18 an18 : Option Addr} {sl18 : Array (Option Value)} {oc18 kV18 dc18 pm18 cd18 ct18 : Value}
    (a18 : PySem.W.nsIn K mainGlobals "set_after" = some (some (.ref f18)))
    (l18 : K.lookup f18 = some ⟨oc18, od18, .func (PySem.W.fnOf "set_after" "set_after" (defArgs s_set_after) (defBody s_set_after) (defScope s_set_after) .none kV18 dc18 pm18 an18 cd18 ct18), sl18⟩)
    (c18 : PySem.W.codeIn K cd18 "set_after" = true) (k18 : PySem.W.keepIn K (.ref f18) = true)
    {f19 : Addr} {od19 an19 : Option Addr} {sl19 : Array (Option Value)} {oc19 kV19 dc19 pm19 cd19 ct19 : Value}
    (a19 : PySem.W.findIn K (.ref C_Stand) "after" = some (some (.ref f19))) (i19 : PySem.W.isFn K (.ref f19) = true)
    (l19 : K.lookup f19 = some ⟨oc19, od19, .func (PySem.W.fnOf "after" "Stand.after" (defArgs s_sta_after) (defBody s_sta_after) (defScope s_sta_after) .none kV19 dc19 pm19 an19 cd19 ct19), sl19⟩)
    (c19 : PySem.W.codeIn K cd19 "Stand.after" = true) (k19 : PySem.W.keepIn K (.ref f19) = true)
    {f20 : Addr} {od20 an20 : Option Addr} {sl20 : Array (Option Value)} {oc20 kV20 dc20 pm20 cd20 ct20 : Value}
    (a20 : PySem.W.findIn K (.ref C_Stand) "sounds" = some (some (.ref f20))) (i20 : PySem.W.isFn K (.ref f20) = true)
    (l20 : K.lookup f20 = some ⟨oc20, od20, .func (PySem.W.fnOf "sounds" "Stand.sounds" (defArgs s_sta_sounds) (defBody s_sta_sounds) (defScope s_sta_sounds) .none kV20 dc20 pm20 an20 cd20 ct20), sl20⟩)
    (c20 : PySem.W.codeIn K cd20 "Stand.sounds" = true) (k20 : PySem.W.keepIn K (.ref f20) = true)
    {f21 : Addr} {od21 an21 : Option Addr} {sl21 : Array (Option Value)} {oc21 kV21 dc21 pm21 cd21 ct21 : Value}
    (a21 : PySem.W.findIn K (.ref C_Stand) "knobs" = some (some (.ref f21))) (i21 : PySem.W.isFn K (.ref f21) = true)
    (l21 : K.lookup f21 = some ⟨oc21, od21, .func (PySem.W.fnOf "knobs" "Stand.knobs" (defArgs s_sta_knobs) (defBody s_sta_knobs) (defScope s_sta_knobs) .none kV21 dc21 pm21 an21 cd21 ct21), sl21⟩)
    (c21 : PySem.W.codeIn K cd21 "Stand.knobs" = true) (k21 : PySem.W.keepIn K (.ref f21) = true)
    {f22 : Addr} {od22 an22 : Option Addr} {sl22 : Array (Option Value)} {oc22 kV22 dc22 pm22 cd22 ct22 : Value}
    (a22 : PySem.W.findIn K (.ref C_Stand) "voices" = some (some (.ref f22))) (i22 : PySem.W.isFn K (.ref f22) = true)
    (l22 : K.lookup f22 = some ⟨oc22, od22, .func (PySem.W.fnOf "voices" "Stand.voices" (defArgs s_sta_voices) (defBody s_sta_voices) (defScope s_sta_voices) .none kV22 dc22 pm22 an22 cd22 ct22), sl22⟩)
    (c22 : PySem.W.codeIn K cd22 "Stand.voices" = true) (k22 : PySem.W.keepIn K (.ref f22) = true)
    {f23 : Addr} {od23 an23 : Option Addr} {sl23 : Array (Option Value)} {oc23 kV23 dc23 pm23 cd23 ct23 : Value}
    (a23 : PySem.W.nsIn K mainGlobals "stand_behind" = some (some (.ref f23)))
    (l23 : K.lookup f23 = some ⟨oc23, od23, .func (PySem.W.fnOf "stand_behind" "stand_behind" (defArgs s_stand_behind) (defBody s_stand_behind) (defScope s_stand_behind) .none kV23 dc23 pm23 an23 cd23 ct23), sl23⟩)
    (c23 : PySem.W.codeIn K cd23 "stand_behind" = true) (k23 : PySem.W.keepIn K (.ref f23) = true)
    {f24 : Addr} {od24 an24 : Option Addr} {sl24 : Array (Option Value)} {oc24 kV24 dc24 pm24 cd24 ct24 : Value}
    (a24 : PySem.W.nsIn K mainGlobals "stand_at" = some (some (.ref f24)))
    (l24 : K.lookup f24 = some ⟨oc24, od24, .func (PySem.W.fnOf "stand_at" "stand_at" (defArgs s_stand_at_x) (defBody s_stand_at_x) (defScope s_stand_at_x) .none kV24 dc24 pm24 an24 cd24 ct24), sl24⟩)
    (c24 : PySem.W.codeIn K cd24 "stand_at" = true) (k24 : PySem.W.keepIn K (.ref f24) = true)
    {f25 : Addr} {od25 an25 : Option Addr} {sl25 : Array (Option Value)} {oc25 kV25 dc25 pm25 cd25 ct25 : Value}
    (a25 : PySem.W.nsIn K mainGlobals "_law_silent" = some (some (.ref f25)))
    (l25 : K.lookup f25 = some ⟨oc25, od25, .func (PySem.W.fnOf "_law_silent" "_law_silent" (defArgs s_m_silent) (defBody s_m_silent) (defScope s_m_silent) .none kV25 dc25 pm25 an25 cd25 ct25), sl25⟩)
    (c25 : PySem.W.codeIn K cd25 "_law_silent" = true) (k25 : PySem.W.keepIn K (.ref f25) = true)
    {f26 : Addr} {od26 an26 : Option Addr} {sl26 : Array (Option Value)} {oc26 kV26 dc26 pm26 cd26 ct26 : Value}
    (a26 : PySem.W.nsIn K mainGlobals "_law_up_to" = some (some (.ref f26)))
    (l26 : K.lookup f26 = some ⟨oc26, od26, .func (PySem.W.fnOf "_law_up_to" "_law_up_to" (defArgs s_m_up_to) (defBody s_m_up_to) (defScope s_m_up_to) .none kV26 dc26 pm26 an26 cd26 ct26), sl26⟩)
    (c26 : PySem.W.codeIn K cd26 "_law_up_to" = true) (k26 : PySem.W.keepIn K (.ref f26) = true)
    {f27 : Addr} {od27 an27 : Option Addr} {sl27 : Array (Option Value)} {oc27 kV27 dc27 pm27 cd27 ct27 : Value}
    (a27 : PySem.W.nsIn K mainGlobals "_law_after" = some (some (.ref f27)))
    (l27 : K.lookup f27 = some ⟨oc27, od27, .func (PySem.W.fnOf "_law_after" "_law_after" (defArgs s_m_after) (defBody s_m_after) (defScope s_m_after) .none kV27 dc27 pm27 an27 cd27 ct27), sl27⟩)
    (c27 : PySem.W.codeIn K cd27 "_law_after" = true) (k27 : PySem.W.keepIn K (.ref f27) = true)
    {f28 : Addr} {od28 an28 : Option Addr} {sl28 : Array (Option Value)} {oc28 kV28 dc28 pm28 cd28 ct28 : Value}
    (a28 : PySem.W.nsIn K mainGlobals "_law_behind" = some (some (.ref f28)))
    (l28 : K.lookup f28 = some ⟨oc28, od28, .func (PySem.W.fnOf "_law_behind" "_law_behind" (defArgs s_m_behind) (defBody s_m_behind) (defScope s_m_behind) .none kV28 dc28 pm28 an28 cd28 ct28), sl28⟩)
    (c28 : PySem.W.codeIn K cd28 "_law_behind" = true) (k28 : PySem.W.keepIn K (.ref f28) = true)
    {f29 : Addr} {od29 an29 : Option Addr} {sl29 : Array (Option Value)} {oc29 kV29 dc29 pm29 cd29 ct29 : Value}
    (a29 : PySem.W.nsIn K mainGlobals "_law_parts" = some (some (.ref f29)))
    (l29 : K.lookup f29 = some ⟨oc29, od29, .func (PySem.W.fnOf "_law_parts" "_law_parts" (defArgs s_m_parts) (defBody s_m_parts) (defScope s_m_parts) .none kV29 dc29 pm29 an29 cd29 ct29), sl29⟩)
    (c29 : PySem.W.codeIn K cd29 "_law_parts" = true) (k29 : PySem.W.keepIn K (.ref f29) = true)
    {f30 : Addr} {od30 an30 : Option Addr} {sl30 : Array (Option Value)} {oc30 kV30 dc30 pm30 cd30 ct30 : Value}
    (a30 : PySem.W.nsIn K mainGlobals "_law_told_parts" = some (some (.ref f30)))
    (l30 : K.lookup f30 = some ⟨oc30, od30, .func (PySem.W.fnOf "_law_told_parts" "_law_told_parts" (defArgs s_m_told_parts) (defBody s_m_told_parts) (defScope s_m_told_parts) .none kV30 dc30 pm30 an30 cd30 ct30), sl30⟩)
    (c30 : PySem.W.codeIn K cd30 "_law_told_parts" = true) (k30 : PySem.W.keepIn K (.ref f30) = true)
    {f31 : Addr} {od31 an31 : Option Addr} {sl31 : Array (Option Value)} {oc31 kV31 dc31 pm31  ct31 : Value}
    {cc31 tb31 : Addr} {ox31 : Value} {dx31 : Option Addr} {vx31 : Array Value} {sx31 : Array (Option Value)}
    (a31 : PySem.W.nsIn K mainGlobals "law" = some (some (.ref f31)))
    (l31 : K.lookup f31 = some ⟨oc31, od31, .func (PySem.W.fnOf "law" "law" (defArgs s_law_k32) (defBody s_law_k32) (defScope s_law_k32) .none kV31 dc31 pm31 an31 (.ref cc31) ct31), sl31⟩)
    (c31 : PySem.W.codeIn K (.ref cc31) "law" = true) (k31 : PySem.W.keepIn K (.ref f31) = true)
    (lx31 : K.lookup cc31 = some ⟨ox31, dx31, .fields vx31, sx31⟩) (vt31 : vx31[11]? = some (.ref tb31)) (nt31 : K.lookup tb31 = none)
    (tl31 : PySem.W.CodeHd h cc31 tb31 ∧ h.get? tb31 = some { cls := .none, data := .fields #[] })
    (z_list : PySem.W.nsIn K mainGlobals "list" = some none)
    (z_len : PySem.W.nsIn K mainGlobals "len" = some none)
    (z_range : PySem.W.nsIn K mainGlobals "range" = some none)
    (z_isinstance : PySem.W.nsIn K mainGlobals "isinstance" = some none)
    (z_bool : PySem.W.nsIn K mainGlobals "bool" = some none)
    (z_int : PySem.W.nsIn K mainGlobals "int" = some none)
    (z_str : PySem.W.nsIn K mainGlobals "str" = some none)
    (z_tuple : PySem.W.nsIn K mainGlobals "tuple" = some none)
    (z_all : PySem.W.nsIn K mainGlobals "all" = some none)
    (z_min : PySem.W.nsIn K mainGlobals "min" = some none)
    (z_enumerate : PySem.W.nsIn K mainGlobals "enumerate" = some none)
    (z_sorted : PySem.W.nsIn K mainGlobals "sorted" = some none)
    (z_dict : PySem.W.nsIn K mainGlobals "dict" = some none)
    (z_ValueError : PySem.W.nsIn K mainGlobals "ValueError" = some none)
    {q1 : Tok}
    (g_MOST_TICK : PySem.W.nsIn K mainGlobals "MOST_TICK" = some (some (.int 999999 q1)))
    {G_TapeError : Addr} (h_TapeError : PySem.W.nsIn K mainGlobals "TapeError" = some (some (.ref G_TapeError)))
    {G_MissingError : Addr} (h_MissingError : PySem.W.nsIn K mainGlobals "MissingError" = some (some (.ref G_MissingError)))
    {C_BadTick CT_BadTick CM_BadTick : Addr} (e_BadTick : ErrF K "BadTick" "BadTick" "badtick" C_BadTick CT_BadTick CM_BadTick f12 true)
    (vV : PySem.W.findCls K (.type "ValueError") (.type "type") "__init__" = some (.val (.builtin "ValueError.__init__")))
    : LamX.LawAtS l w K CX0 8 63 "_law_script" mg fa h := by
  have e := hfa.symm.trans (PySem.W.mg_of X G a31)
  cases e
  have m_list := PySem.W.mg_none_of X G z_list
  have m_len := PySem.W.mg_none_of X G z_len
  have m_range := PySem.W.mg_none_of X G z_range
  have m_isinstance := PySem.W.mg_none_of X G z_isinstance
  have m_bool := PySem.W.mg_none_of X G z_bool
  have m_int := PySem.W.mg_none_of X G z_int
  have m_str := PySem.W.mg_none_of X G z_str
  have m_tuple := PySem.W.mg_none_of X G z_tuple
  have m_all := PySem.W.mg_none_of X G z_all
  have m_min := PySem.W.mg_none_of X G z_min
  have m_enumerate := PySem.W.mg_none_of X G z_enumerate
  have m_sorted := PySem.W.mg_none_of X G z_sorted
  have m_dict := PySem.W.mg_none_of X G z_dict
  have m_ValueError := PySem.W.mg_none_of X G z_ValueError
  have g_TapeError := PySem.W.mg_of X G h_TapeError
  have g_MissingError := PySem.W.mg_of X G h_MissingError
  have c_MOST_TICK : ∃ u, mg "MOST_TICK" = some u ∧ L2.RelV (.int 999999) u := ⟨_, PySem.W.mg_of X G g_MOST_TICK, ⟨_, rfl⟩⟩
  have F1 := fun_mk (st := s_begin) l1 c1 k1
  have g1 := PySem.W.mg_of X G a1
  have b1 := F1.binds (ps := ["_law_script"]) fun _ _ _ _ _ _ us hl => match us, hl with | [_], _ => rfl
  have F2 := fun_mk (st := s_pick) l2 c2 k2
  have g2 := PySem.W.mg_of X G a2
  have b2 := F2.binds (ps := ["_law_draw", "_law_many"]) fun _ _ _ _ _ _ us hl => match us, hl with | [_, _], _ => rfl
  have F3 := fun_mk (st := s_one) l3 c3 k3
  have g3 := PySem.W.mg_of X G a3
  have b3 := F3.binds (ps := ["_law_draw", "_law_some"]) fun _ _ _ _ _ _ us hl => match us, hl with | [_, _], _ => rfl
  have F4 := fun_mk (st := s_channel) l4 c4 k4
  have g4 := PySem.W.mg_of X G a4
  have b4 := F4.binds (ps := ["_law_draw"]) fun _ _ _ _ _ _ us hl => match us, hl with | [_], _ => rfl
  have F5 := fun_mk (st := s_key) l5 c5 k5
  have g5 := PySem.W.mg_of X G a5
  have b5 := F5.binds (ps := ["_law_draw"]) fun _ _ _ _ _ _ us hl => match us, hl with | [_], _ => rfl
  have F6 := fun_mk (st := s_word) l6 c6 k6
  have g6 := PySem.W.mg_of X G a6
  have b6 := F6.binds (ps := ["_law_draw", "_law_most"]) fun _ _ _ _ _ _ us hl => match us, hl with | [_, _], _ => rfl
  have F7 := fun_mk (st := s_thing) l7 c7 k7
  have g7 := PySem.W.mg_of X G a7
  have b7 := F7.binds (ps := ["_law_draw"]) fun _ _ _ _ _ _ us hl => match us, hl with | [_], _ => rfl
  have F8 := fun_mk (st := s_keen_track) l8 c8 k8
  have g8 := PySem.W.mg_of X G a8
  have b8 := F8.binds (ps := ["_law_draw", "_law_most"]) fun _ _ _ _ _ _ us hl => match us, hl with | [_, _], _ => rfl
  have F9 := fun_mk (st := s_tick) l9 c9 k9
  have g9 := PySem.W.mg_of X G a9
  have b9 := F9.binds (ps := ["_law_draw"]) fun _ _ _ _ _ _ us hl => match us, hl with | [_], _ => rfl
  have F10 := fun_mk (st := s_far) l10 c10 k10
  have g10 := PySem.W.mg_of X G a10
  have b10 := F10.binds (ps := ["_law_draw"]) fun _ _ _ _ _ _ us hl => match us, hl with | [_], _ => rfl
  have F11 := fun_mk (st := s_same) l11 c11 k11
  have g11 := PySem.W.mg_of X G a11
  have b11 := F11.binds (ps := ["_law_found", "_law_due"]) fun _ _ _ _ _ _ us hl => match us, hl with | [_, _], _ => rfl
  have F12 : FunD K "__init__" "TapeError.__init__" (defArgs s_tape_init) (defBody s_tape_init) (defScope s_tape_init) [.str ""] [] f12 _ := ⟨⟨_, _, _, _, _, _, _, _, _, _, rfl, l12, c12, .inr ⟨by simp, _, _, _, _, rfl, t12, rfl, (.cons ⟨_, rfl⟩ .nil)⟩, .inl rfl⟩, k12⟩
  obtain ⟨ds12, vd12, b12⟩ := F12.binds1 (ps := ["self", "why"]) 2 1 (by simp) rfl fun _ _ _ _ _ _ _ us its h1 h2 => match us, its, h1, h2 with | [_, _], [_], _, _ => ⟨_, rfl, rfl⟩
  cases vd12
  have F13 := fun_mk (st := s_tried) l13 c13 k13
  have g13 := PySem.W.mg_of X G a13
  have b13 := F13.binds (ps := ["_law_ask"]) fun _ _ _ _ _ _ us hl => match us, hl with | [_], _ => rfl
  have F14 := fun_mk (st := s_is_within) l14 c14 k14
  have g14 := PySem.W.mg_of X G a14
  have b14 := F14.binds (ps := ["thing", "low", "high"]) fun _ _ _ _ _ _ us hl => match us, hl with | [_, _, _], _ => rfl
  have F15 := fun_mk (st := s_need_tick) l15 c15 k15
  have g15 := PySem.W.mg_of X G a15
  have b15 := F15.binds (ps := ["tick"]) fun _ _ _ _ _ _ us hl => match us, hl with | [_], _ => rfl
  have F16 := fun_mk (st := s_sta_init) l16 c16 k16
  have b16 := F16.binds (ps := ["self"]) fun _ _ _ _ _ _ us hl => match us, hl with | [_], _ => rfl
  have F17 := fun_mk (st := s_sounds_after) l17 c17 k17
  have g17 := PySem.W.mg_of X G a17
  have b17 := F17.binds (ps := ["sounds", "thing"]) fun _ _ _ _ _ _ us hl => match us, hl with | [_, _], _ => rfl
  have F18 := fun_mk (st := s_set_after) l18 c18 k18
  have g18 := PySem.W.mg_of X G a18
  have b18 := F18.binds (ps := ["rows", "thing"]) fun _ _ _ _ _ _ us hl => match us, hl with | [_, _], _ => rfl
  have F19 := fun_mk (st := s_sta_after) l19 c19 k19
  have b19 := F19.binds (ps := ["self", "thing"]) fun _ _ _ _ _ _ us hl => match us, hl with | [_, _], _ => rfl
  have F20 := fun_mk (st := s_sta_sounds) l20 c20 k20
  have b20 := F20.binds (ps := ["self"]) fun _ _ _ _ _ _ us hl => match us, hl with | [_], _ => rfl
  have F21 := fun_mk (st := s_sta_knobs) l21 c21 k21
  have b21 := F21.binds (ps := ["self"]) fun _ _ _ _ _ _ us hl => match us, hl with | [_], _ => rfl
  have F22 := fun_mk (st := s_sta_voices) l22 c22 k22
  have b22 := F22.binds (ps := ["self"]) fun _ _ _ _ _ _ us hl => match us, hl with | [_], _ => rfl
  have F23 := fun_mk (st := s_stand_behind) l23 c23 k23
  have g23 := PySem.W.mg_of X G a23
  have b23 := F23.binds (ps := ["stand", "events"]) fun _ _ _ _ _ _ us hl => match us, hl with | [_, _], _ => rfl
  have F24 := fun_mk (st := s_stand_at_x) l24 c24 k24
  have g24 := PySem.W.mg_of X G a24
  have b24 := F24.binds (ps := ["track", "tick"]) fun _ _ _ _ _ _ us hl => match us, hl with | [_, _], _ => rfl
  have F25 := fun_mk (st := s_m_silent) l25 c25 k25
  have g25 := PySem.W.mg_of X G a25
  have b25 := F25.binds (ps := []) fun _ _ _ _ _ _ us hl => match us, hl with | [], _ => rfl
  have F26 := fun_mk (st := s_m_up_to) l26 c26 k26
  have g26 := PySem.W.mg_of X G a26
  have b26 := F26.binds (ps := ["_law_track", "_law_tick_here"]) fun _ _ _ _ _ _ us hl => match us, hl with | [_, _], _ => rfl
  have F27 := fun_mk (st := s_m_after) l27 c27 k27
  have g27 := PySem.W.mg_of X G a27
  have b27 := F27.binds (ps := ["_law_m", "_law_thing_here"]) fun _ _ _ _ _ _ us hl => match us, hl with | [_, _], _ => rfl
  have F28 := fun_mk (st := s_m_behind) l28 c28 k28
  have g28 := PySem.W.mg_of X G a28
  have b28 := F28.binds (ps := ["_law_m", "_law_track"]) fun _ _ _ _ _ _ us hl => match us, hl with | [_, _], _ => rfl
  have F29 := fun_mk (st := s_m_parts) l29 c29 k29
  have g29 := PySem.W.mg_of X G a29
  have b29 := F29.binds (ps := ["_law_m"]) fun _ _ _ _ _ _ us hl => match us, hl with | [_], _ => rfl
  have F30 := fun_mk (st := s_m_told_parts) l30 c30 k30
  have g30 := PySem.W.mg_of X G a30
  have b30 := F30.binds (ps := ["_law_stand"]) fun _ _ _ _ _ _ us hl => match us, hl with | [_], _ => rfl
  have F31 := fun_mk (st := s_law_k32) l31 c31 k31
  have g31 := PySem.W.mg_of X G a31
  refine ⟨PySem.W.fnOf "law" "law" (defArgs s_law_k32) (defBody s_law_k32) (defScope s_law_k32) .none kV31 dc31 pm31 an31 (.ref cc31) ct31, [(cc31, tb31)], spLaw K [(tb31, lamQ)], List.forall_mem_cons.mpr ⟨tl31.2, (fun _ h => nomatch h)⟩, List.forall_mem_cons.mpr ⟨nt31, (fun _ h => nomatch h)⟩, List.forall_mem_cons.mpr ⟨tl31.1, (fun _ h => nomatch h)⟩, fun s v => .of_eq rfl, fun H a ns hl hbits hT hS => ?hsp, fun base Kb Gb TB => ?_⟩
  case hsp =>
    exact ⟨a, ns, rfl, hS, fun p hp => by have e := List.mem_singleton.mp hp; subst e; exact LamX.TabS.nil (hT (cc31, tb31) (by simp)), fun _ => rfl⟩
  have TB31 : LamX.TabB base mg cc31 tb31 := TB (cc31, tb31) (by simp)
  have cl_Stand : Cls K C_Stand := ⟨pg_Stand, hd_Stand, po_Stand, sa_Stand⟩
  have mgC_Stand := PySem.W.mg_of X G aC_Stand
  have TS : StandT K C_Stand := ⟨cl_Stand, nA_Stand_sounds, nA_Stand_knobs, nA_Stand_voices⟩
  have D__law_begin : Def l.prog w K mg base "_law_begin" 1 (spBegin K) := ⟨_, _, _, _, g1, ok_begin (P := l.prog) (w := w) (base := base) F1 m_list, k1, b1, .nil⟩
  have D__law_pick : Def l.prog w K mg base "_law_pick" 1 spPick := ⟨_, _, _, _, g2, ok_pick (P := l.prog) (w := w) (base := base) F2 m_len, k2, b2, .nil⟩
  have D__law_one : Def l.prog w K mg base "_law_one" 2 spOne := ⟨_, _, _, _, g3, ok_one (P := l.prog) (w := w) (base := base) F3 D__law_pick m_len, k3, b3, .nil⟩
  have D__law_channel : Def l.prog w K mg base "_law_channel" 2 (spInts 0 15) := ⟨_, _, _, _, g4, ok_channel (P := l.prog) (w := w) (base := base) F4 D__law_pick, k4, b4, .nil⟩
  have D__law_key : Def l.prog w K mg base "_law_key" 2 (spInts 0 127) := ⟨_, _, _, _, g5, ok_key (P := l.prog) (w := w) (base := base) F5 D__law_pick, k5, b5, .nil⟩
  have D__law_word : Def l.prog w K mg base "_law_word" 2 spWord := ⟨_, _, _, _, g6, ok_word (P := l.prog) (w := w) (base := base) F6 D__law_pick m_range, k6, b6, .nil⟩
  have D__law_thing : Def l.prog w K mg base "_law_thing" 3 spThing := ⟨_, _, _, _, g7, ok_thing (P := l.prog) (w := w) (base := base) F7 D__law_pick D__law_channel D__law_key D__law_word, k7, b7, .nil⟩
  have D__law_keen_track : Def l.prog w K mg base "_law_keen_track" 4 spKeen := ⟨_, _, _, _, g8, ok_keen_track (P := l.prog) (w := w) (base := base) F8 D__law_pick D__law_one D__law_channel D__law_key D__law_thing m_range m_min, k8, b8, .nil⟩
  have D__law_tick : Def l.prog w K mg base "_law_tick" 2 (spInts 0 999999) := ⟨_, _, _, _, g9, ok_tick (P := l.prog) (w := w) (base := base) F9 D__law_pick, k9, b9, .nil⟩
  have D__law_far : Def l.prog w K mg base "_law_far" 2 spFar := ⟨_, _, _, _, g10, ok_far (P := l.prog) (w := w) (base := base) F10 D__law_pick, k10, b10, .nil⟩
  have D__law_same : Def l.prog w K mg base "_law_same" 4 (spSame K 3) := ⟨_, _, _, _, g11, ok_same (P := l.prog) (w := w) (base := base) F11 b11 g11 m_isinstance m_bool m_int m_str m_list m_tuple m_len m_all m_range 3, k11, b11, .nil⟩
  have I_tape_init := ok_tape_init (P := l.prog) (w := w) (base := base) F12 m_ValueError vV
  have T_BadTick := err_mk (P := l.prog) (w := w) (base := base) e_BadTick X G I_tape_init b12
  have D_is_within : Def l.prog w K mg base "is_within" 1 spWithin := ⟨_, _, _, _, g14, ok_is_within (P := l.prog) (w := w) (base := base) F14 m_isinstance m_int m_bool, k14, b14, .nil⟩
  have D_need_tick : DefX l.prog w K mg base "need_tick" 3 (spNeedTick K mg) := ⟨_, _, _, g15, ok_need_tick (P := l.prog) (w := w) (base := base) F15 T_BadTick D_is_within c_MOST_TICK, k15, b15⟩
  have MK_Stand : C8.Mak l.prog w K mg base 1 "Stand" C_Stand (spNew C_Stand) [] := ⟨_, _, _, _, ⟨mk_Stand, a16, i16, kc_Stand⟩, ok_sta_init (P := l.prog) (w := w) (base := base) F16 TS, mgC_Stand, b16, .nil⟩
  have D_sounds_after : Def l.prog w K mg base "sounds_after" 1 spSnd := ⟨_, _, _, _, g17, ok_sounds_after (P := l.prog) (w := w) (base := base) F17 m_len m_enumerate, k17, b17, .nil⟩
  have D_set_after_k : Def l.prog w K mg base "set_after" 1 (spSet 3 fun e => ∃ t c k v, e = .knob t c k v) := ⟨_, _, _, _, g18, ok_set_after (P := l.prog) (w := w) (base := base) (d := 3) (ok := fun e => ∃ t c k v, e = .knob t c k v) (by decide) F18 m_sorted, k18, b18, .nil⟩
  have D_set_after_v : Def l.prog w K mg base "set_after" 1 (spSet 2 fun e => ∃ t c v, e = .voice t c v) := ⟨_, _, _, _, g18, ok_set_after (P := l.prog) (w := w) (base := base) (d := 2) (ok := fun e => ∃ t c v, e = .voice t c v) (by decide) F18 m_sorted, k18, b18, .nil⟩
  have O_Stand_after := ok_sta_after (P := l.prog) (w := w) (base := base) F19 TS MK_Stand D_sounds_after D_set_after_k D_set_after_v
  have mt_Stand_after : Meth K C_Stand "after" f19 := ⟨a19, i19, k19⟩
  have M_Stand_after : C8.Met l.prog w K mg base 3 C_Stand "after" (spAfter C_Stand) [] := ⟨_, _, _, _, cl_Stand, mt_Stand_after, O_Stand_after, b19, .nil⟩
  have O_Stand_sounds := ok_sta_sounds (P := l.prog) (w := w) (base := base) F20 TS m_list
  have mt_Stand_sounds : Meth K C_Stand "sounds" f20 := ⟨a20, i20, k20⟩
  have M_Stand_sounds : C8.Met l.prog w K mg base 1 C_Stand "sounds" (spTold C_Stand Sta.snd) [] := ⟨_, _, _, _, cl_Stand, mt_Stand_sounds, O_Stand_sounds, b20, .nil⟩
  have O_Stand_knobs := ok_sta_knobs (P := l.prog) (w := w) (base := base) F21 TS m_list
  have mt_Stand_knobs : Meth K C_Stand "knobs" f21 := ⟨a21, i21, k21⟩
  have M_Stand_knobs : C8.Met l.prog w K mg base 1 C_Stand "knobs" (spTold C_Stand Sta.knb) [] := ⟨_, _, _, _, cl_Stand, mt_Stand_knobs, O_Stand_knobs, b21, .nil⟩
  have O_Stand_voices := ok_sta_voices (P := l.prog) (w := w) (base := base) F22 TS m_list
  have mt_Stand_voices : Meth K C_Stand "voices" f22 := ⟨a22, i22, k22⟩
  have M_Stand_voices : C8.Met l.prog w K mg base 1 C_Stand "voices" (spTold C_Stand Sta.voi) [] := ⟨_, _, _, _, cl_Stand, mt_Stand_voices, O_Stand_voices, b22, .nil⟩
  have D_stand_behind : Def l.prog w K mg base "stand_behind" 4 (spStandBehind C_Stand) := ⟨_, _, _, _, g23, ok_stand_behind (P := l.prog) (w := w) (base := base) F23 M_Stand_after, k23, b23, .nil⟩
  have D_stand_at : DefX l.prog w K mg base "stand_at" 5 (spStandAtX K mg C_Stand) := ⟨_, _, _, g24, ok_stand_at_x (P := l.prog) (w := w) (base := base) F24 MK_Stand D_stand_behind D_need_tick, k24, b24⟩
  have D__law_silent : Def l.prog w K mg base "_law_silent" 1 spSilent := ⟨_, _, _, _, g25, ok_silent (P := l.prog) (w := w) (base := base) F25, k25, b25, .nil⟩
  have D__law_up_to : Def l.prog w K mg base "_law_up_to" 1 spUpToM := ⟨_, _, _, _, g26, ok_up_to (P := l.prog) (w := w) (base := base) F26, k26, b26, .nil⟩
  have D__law_after : Def l.prog w K mg base "_law_after" 1 spAfterM := ⟨_, _, _, _, g27, ok_after (P := l.prog) (w := w) (base := base) F27 m_dict, k27, b27, .nil⟩
  have D__law_behind : Def l.prog w K mg base "_law_behind" 2 spBehind := ⟨_, _, _, _, g28, ok_behind (P := l.prog) (w := w) (base := base) F28 D__law_after, k28, b28, .nil⟩
  have D__law_parts : Def l.prog w K mg base "_law_parts" 2 (spParts K) := ⟨_, _, _, _, g29, ok_parts (P := l.prog) (w := w) (base := base) F29 m_sorted m_list, k29, b29, .nil⟩
  have D__law_told_parts : Def l.prog w K mg base "_law_told_parts" 2 (spToldParts K C_Stand) := ⟨_, _, _, _, g30, ok_told_parts (P := l.prog) (w := w) (base := base) F30 M_Stand_sounds M_Stand_knobs M_Stand_voices, k30, b30, .nil⟩
  exact ok_law (P := l.prog) (w := w) (base := base) F31 rfl TB31 D__law_begin D__law_pick D__law_one D__law_keen_track D__law_tick D__law_far D_stand_at D__law_silent D__law_up_to D__law_behind D__law_parts D__law_told_parts D__law_same F13 g13 b13 g_TapeError g_MissingError m_range m_list
end Rt
open PySem PySem.W PyProof.Rows
set_option maxRecDepth 100000 in
set_option maxHeartbeats 0 in
theorem PySem.Challenge.cw_reedtapes_k32_stands_at_ticks_holds : PySem.Challenge.rw_reedtapes_k32_stands_at_ticks.Holds := by
  w_on; o_law; k_head; (case hw => w_witness2)
  k_fill
  refine Rt.walkT (l := PySem.Challenge.rw_reedtapes_k32_stands_at_ticks) (n := 63) (k := 8) (x := "_law_script") (CX := fun _ => L2.CX0) rfl (by decide) rfl ⟨rfl, by decide, by decide⟩ (fun w h Y => PySem.W.km_in_of Y) ?F (fun _ _ _ _ _ h => h)
  case F =>
    intro w mg fa h KX G hmg tabs
    refine' Rt.all_mk KX G hmg ?aC_Stand ?pg_Stand ?hd_Stand ?po_Stand ?sa_Stand ?mk_Stand ?kc_Stand ?nA_Stand_sounds ?nA_Stand_knobs ?nA_Stand_voices ?a1 ?l1 ?c1 ?k1 ?a2 ?l2 ?c2 ?k2 ?a3 ?l3 ?c3 ?k3 ?a4 ?l4 ?c4 ?k4 ?a5 ?l5 ?c5 ?k5 ?a6 ?l6 ?c6 ?k6 ?a7 ?l7 ?c7 ?k7 ?a8 ?l8 ?c8 ?k8 ?a9 ?l9 ?c9 ?k9 ?a10 ?l10 ?c10 ?k10 ?a11 ?l11 ?c11 ?k11 ?b12 ?a12 ?l12 ?c12 ?k12 ?t12 ?a13 ?l13 ?c13 ?k13 ?a14 ?l14 ?c14 ?k14 ?a15 ?l15 ?c15 ?k15 ?a16 ?i16 ?l16 ?c16 ?k16 ?a17 ?l17 ?c17 ?k17 ?a18 ?l18 ?c18 ?k18 ?a19 ?i19 ?l19 ?c19 ?k19 ?a20 ?i20 ?l20 ?c20 ?k20 ?a21 ?i21 ?l21 ?c21 ?k21 ?a22 ?i22 ?l22 ?c22 ?k22 ?a23 ?l23 ?c23 ?k23 ?a24 ?l24 ?c24 ?k24 ?a25 ?l25 ?c25 ?k25 ?a26 ?l26 ?c26 ?k26 ?a27 ?l27 ?c27 ?k27 ?a28 ?l28 ?c28 ?k28 ?a29 ?l29 ?c29 ?k29 ?a30 ?l30 ?c30 ?k30 ?a31 ?l31 ?c31 ?k31 ?lx31 ?vt31 ?nt31 ?tl31 ?z_list ?z_len ?z_range ?z_isinstance ?z_bool ?z_int ?z_str ?z_tuple ?z_all ?z_min ?z_enumerate ?z_sorted ?z_dict ?z_ValueError ?g_MOST_TICK ?h_TapeError ?h_MissingError ?e_BadTick ?vV
    (case aC_Stand => k_is)
    (case pg_Stand => k_is)
    (case hd_Stand => k_is)
    (case po_Stand => k_is)
    (case sa_Stand => k_is)
    (case mk_Stand => k_is)
    (case kc_Stand => k_is)
    (case nA_Stand_sounds => k_is)
    (case nA_Stand_knobs => k_is)
    (case nA_Stand_voices => k_is)
    (case a1 => k_is)
    (case l1 => k_is)
    (case c1 => k_is)
    (case k1 => k_is)
    (case a2 => k_is)
    (case l2 => k_is)
    (case c2 => k_is)
    (case k2 => k_is)
    (case a3 => k_is)
    (case l3 => k_is)
    (case c3 => k_is)
    (case k3 => k_is)
    (case a4 => k_is)
    (case l4 => k_is)
    (case c4 => k_is)
    (case k4 => k_is)
    (case a5 => k_is)
    (case l5 => k_is)
    (case c5 => k_is)
    (case k5 => k_is)
    (case a6 => k_is)
    (case l6 => k_is)
    (case c6 => k_is)
    (case k6 => k_is)
    (case a7 => k_is)
    (case l7 => k_is)
    (case c7 => k_is)
    (case k7 => k_is)
    (case a8 => k_is)
    (case l8 => k_is)
    (case c8 => k_is)
    (case k8 => k_is)
    (case a9 => k_is)
    (case l9 => k_is)
    (case c9 => k_is)
    (case k9 => k_is)
    (case a10 => k_is)
    (case l10 => k_is)
    (case c10 => k_is)
    (case k10 => k_is)
    (case a11 => k_is)
    (case l11 => k_is)
    (case c11 => k_is)
    (case k11 => k_is)
    (case b12 => k_is)
    (case a12 => k_is)
    (case l12 => k_is)
    (case c12 => k_is)
    (case k12 => k_is)
    (case t12 => k_is)
    (case a13 => k_is)
    (case l13 => k_is)
    (case c13 => k_is)
    (case k13 => k_is)
    (case a14 => k_is)
    (case l14 => k_is)
    (case c14 => k_is)
    (case k14 => k_is)
    (case a15 => k_is)
    (case l15 => k_is)
    (case c15 => k_is)
    (case k15 => k_is)
    (case a16 => k_is)
    (case i16 => k_is)
    (case l16 => k_is)
    (case c16 => k_is)
    (case k16 => k_is)
    (case a17 => k_is)
    (case l17 => k_is)
    (case c17 => k_is)
    (case k17 => k_is)
    (case a18 => k_is)
    (case l18 => k_is)
    (case c18 => k_is)
    (case k18 => k_is)
    (case a19 => k_is)
    (case i19 => k_is)
    (case l19 => k_is)
    (case c19 => k_is)
    (case k19 => k_is)
    (case a20 => k_is)
    (case i20 => k_is)
    (case l20 => k_is)
    (case c20 => k_is)
    (case k20 => k_is)
    (case a21 => k_is)
    (case i21 => k_is)
    (case l21 => k_is)
    (case c21 => k_is)
    (case k21 => k_is)
    (case a22 => k_is)
    (case i22 => k_is)
    (case l22 => k_is)
    (case c22 => k_is)
    (case k22 => k_is)
    (case a23 => k_is)
    (case l23 => k_is)
    (case c23 => k_is)
    (case k23 => k_is)
    (case a24 => k_is)
    (case l24 => k_is)
    (case c24 => k_is)
    (case k24 => k_is)
    (case a25 => k_is)
    (case l25 => k_is)
    (case c25 => k_is)
    (case k25 => k_is)
    (case a26 => k_is)
    (case l26 => k_is)
    (case c26 => k_is)
    (case k26 => k_is)
    (case a27 => k_is)
    (case l27 => k_is)
    (case c27 => k_is)
    (case k27 => k_is)
    (case a28 => k_is)
    (case l28 => k_is)
    (case c28 => k_is)
    (case k28 => k_is)
    (case a29 => k_is)
    (case l29 => k_is)
    (case c29 => k_is)
    (case k29 => k_is)
    (case a30 => k_is)
    (case l30 => k_is)
    (case c30 => k_is)
    (case k30 => k_is)
    (case a31 => k_is)
    (case l31 => k_is)
    (case c31 => k_is)
    (case k31 => k_is)
    (case lx31 => k_is)
    (case vt31 => rfl)
    (case nt31 => kernel_rfl)
    (case tl31 => refine tabs "law" _ _ _ rfl (by kernel_rfl))
    (case z_list => k_is)
    (case z_len => k_is)
    (case z_range => k_is)
    (case z_isinstance => k_is)
    (case z_bool => k_is)
    (case z_int => k_is)
    (case z_str => k_is)
    (case z_tuple => k_is)
    (case z_all => k_is)
    (case z_min => k_is)
    (case z_enumerate => k_is)
    (case z_sorted => k_is)
    (case z_dict => k_is)
    (case z_ValueError => k_is)
    (case g_MOST_TICK => k_is)
    (case h_TapeError => k_is)
    (case h_MissingError => k_is)
    (case e_BadTick =>
      refine' Rt.errF_of ?e_BadTick_g ?e_BadTick_gT ?e_BadTick_gM ?e_BadTick_cls1 ?e_BadTick_cls2 ?e_BadTick_nm1 ?e_BadTick_nm2 ?e_BadTick_sa ?e_BadTick_exC ?e_BadTick_tyC ?e_BadTick_kC ?e_BadTick_ga ?e_BadTick_gg ?e_BadTick_hd ?e_BadTick_ca ?e_BadTick_cg ?e_BadTick_ct ?e_BadTick_mo ?e_BadTick_rd ?e_BadTick_fc ?e_BadTick_nc ?e_BadTick_iC ?e_BadTick_tI ?e_BadTick_t1 ?e_BadTick_t2 ?e_BadTick_t3 ?e_BadTick_t4 ?e_BadTick_u1 ?e_BadTick_u2 ?e_BadTick_u3 ?e_BadTick_u4 ?e_BadTick_low ?e_BadTick_sz
      (case e_BadTick_g => k_is)
      (case e_BadTick_gT => k_is)
      (case e_BadTick_gM => k_is)
      (case e_BadTick_cls1 => k_is)
      (case e_BadTick_cls2 => decide +kernel)
      (case e_BadTick_nm1 => k_is)
      (case e_BadTick_nm2 => rfl)
      (case e_BadTick_sa => k_is)
      (case e_BadTick_exC => k_is)
      (case e_BadTick_tyC => k_is)
      (case e_BadTick_kC => k_is)
      (case e_BadTick_ga => k_is)
      (case e_BadTick_gg => k_is)
      (case e_BadTick_hd => k_is)
      (case e_BadTick_ca => k_is)
      (case e_BadTick_cg => k_is)
      (case e_BadTick_ct => k_is)
      (case e_BadTick_mo => k_is)
      (case e_BadTick_rd => k_is)
      (case e_BadTick_fc => k_is)
      (case e_BadTick_nc => k_is)
      (case e_BadTick_iC => k_is)
      (case e_BadTick_tI => k_is)
      (case e_BadTick_t1 => k_is)
      (case e_BadTick_t2 => k_is)
      (case e_BadTick_t3 => k_is)
      (case e_BadTick_t4 => k_is)
      (case e_BadTick_u1 => k_is)
      (case e_BadTick_u2 => k_is)
      (case e_BadTick_u3 => k_is)
      (case e_BadTick_u4 => k_is)
      (case e_BadTick_low => decide +kernel)
      (case e_BadTick_sz => decide +kernel))
    (case vV => k_is)
