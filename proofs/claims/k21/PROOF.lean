import PyProof.Rows.All
import Wide.All
import OpenK.AllK
import Wide.FinOn
import HandS.ForMost
import HandS.ForExc
import HandS.IsInst
import HandS.FStr
import HandS.TryMany
import HandS.ExcInit
import HandS.ExcField
import HandS.ExcIs
import HandS.Codes
import HandS.Defaults
import HandS.SortInts
import HandS.Gcd
import HandS.Wide
import KE.KTypeName
import HandS.CallSlots
import HandS.Lambda
import HandS.EndTab
import KE.KNestM
import HandS.EndOwn
import PySem.Challenge.RW_reedtapes_k21_shares_in_lowest_terms
set_option Elab.async false
set_option linter.all false
set_option maxRecDepth 100000
set_option maxHeartbeats 4000000
namespace Rt
open PySem PySem.Spec PyProof.Rows L2
/-! ### heaps: what was known stays known -/
def Ex (H H' : Hp) : Prop := ∀ b o, H b = some o → H' b = some o
theorem Ex.refl (H : Hp) : Ex H H := fun _ _ h => h
theorem Ex.trans {H H1 H2 : Hp} (a : Ex H H1) (b : Ex H1 H2) : Ex H H2 := fun c o h => b c o (a c o h)
theorem Ex.to {H H' : Hp} {b : Addr} {o : HO} (e : Ex H H') (h : H b = some o) : H' b = some o := e b o h
theorem Ex.seq {K : PySem.W.Frag} {H H' : Hp} {a : Addr} {xs : List V} (e : Ex H H') (h : SqL K H a xs) : SqL K H' a xs := by
  rcases h with (h | ⟨o, h⟩) | h
  · exact .inl (.inl (e _ _ h))
  · exact .inl (.inr ⟨o, e _ _ h⟩)
  · exact .inr h
theorem Ex.new {H : Hp} {p : Addr} {o : HO} (h : H p = none) : Ex H (upd H p o) := fun a u e => by
  rw [upd_ne (ne_of_none e h)]
  exact e
theorem Ex.free {H H' : Hp} {p : Addr} (e : Ex H H') (h : H' p = none) : H p = none := by
  cases q : H p with
  | none => rfl
  | some o =>
    rw [e p o q] at h
    cases h
/-- a step of the heap: H0 what is settled, H all; m: what may be turned -/
structure Go (m : Addr → Prop) (E0 E H0 H : Hp) : Prop where
  up : Ex E0 H0
  inn : Ex H0 H
  new : ∀ b, E b ≠ none → E0 b = none → H0 b = none
  keep : ∀ b o, E b = some o → ¬ m b → H b = some o
  there : ∀ b, E b ≠ none → H b ≠ none
theorem Go.refl {m : Addr → Prop} {H0 H : Hp} (e : Ex H0 H) : Go m H0 H H0 H := ⟨Ex.refl _, e, fun _ _ h => h, fun _ _ h _ => h, fun _ h => h⟩
theorem Go.trans {m m' : Addr → Prop} {E0 E F0 F G0 G : Hp} (a : Go m E0 E F0 F) (b : Go m' F0 F G0 G) (hm : ∀ x, E x ≠ none → m' x → m x) : Go m E0 E G0 G where
  up := a.up.trans b.up
  inn := b.inn
  new := fun x h1 h2 => b.new x (a.there x h1) (a.new x h1 h2)
  keep := fun x o h n => b.keep x o (a.keep x o h n) fun z => n (hm x (by rw [h]; simp) z)
  there := fun x h => b.there x (a.there x h)
/-- the same, what may be turned being alike -/
theorem Go.then {m : Addr → Prop} {E0 E F0 F G0 G : Hp} (a : Go m E0 E F0 F) (b : Go m F0 F G0 G) : Go m E0 E G0 G := a.trans b fun _ _ h => h
/-- a new object, not settled -/
theorem Go.lay {m : Addr → Prop} {E0 E H0 H : Hp} {p : Addr} (o : HO) (a : Go m E0 E H0 H) (h : H p = none) : Go m E0 E H0 (upd H p o) where
  up := a.up
  inn := a.inn.trans (Ex.new h)
  new := a.new
  keep := fun x u q n => by
    rw [upd_ne (ne_of_none (a.keep x u q n) h)]
    exact a.keep x u q n
  there := fun x q => by
    by_cases e : x = p
    · rw [e, upd_same]; simp
    · rw [upd_ne e]; exact a.there x q
/-- a new object that is not known at the entry is turned -/
theorem Go.turn {m : Addr → Prop} {E0 E H0 H : Hp} {p : Addr} (o : HO) (a : Go m E0 E H0 H) (h : E p = none) (h0 : H0 p = none) : Go m E0 E H0 (upd H p o) where
  up := a.up
  inn := fun x u q => by
    rw [upd_ne (ne_of_none q h0)]
    exact a.inn x u q
  new := a.new
  keep := fun x u q n => by
    rw [upd_ne (ne_of_none q h)]
    exact a.keep x u q n
  there := fun x q => by
    by_cases e : x = p
    · rw [e, upd_same]; simp
    · rw [upd_ne e]; exact a.there x q
/-- what may be turned is turned -/
theorem Go.turnM {m : Addr → Prop} {E0 E H0 H : Hp} {p : Addr} (o : HO) (a : Go m E0 E H0 H) (h : m p) (h0 : H0 p = none) : Go m E0 E H0 (upd H p o) where
  up := a.up
  inn := fun x u q => by
    rw [upd_ne (ne_of_none q h0)]
    exact a.inn x u q
  new := a.new
  keep := fun x u q n => by
    have e : x ≠ p := fun z => n (z ▸ h)
    rw [upd_ne e]
    exact a.keep x u q n
  there := fun x q => by
    by_cases e : x = p
    · rw [e, upd_same]; simp
    · rw [upd_ne e]; exact a.there x q
/-- it is settled -/
theorem Go.set {m : Addr → Prop} {E0 E H0 H : Hp} {p : Addr} {o : HO} (a : Go m E0 E H0 H) (h : E p = none) (hp : H p = some o) (h0 : H0 p = none) : Go m E0 E (upd H0 p o) H where
  up := a.up.trans (Ex.new h0)
  inn := fun x u q => by
    by_cases e : x = p
    · rw [e, upd_same] at q
      rw [e, hp, q]
    · rw [upd_ne e] at q
      exact a.inn x u q
  new := fun x q r => by
    have e : x ≠ p := fun z => q (z ▸ h)
    rw [upd_ne e]
    exact a.new x q r
  keep := a.keep
  there := a.there
/-- a new object that is settled at once -/
theorem Go.put {m : Addr → Prop} {E0 E H0 H : Hp} {p : Addr} (o : HO) (a : Go m E0 E H0 H) (h : H p = none) : Go m E0 E (upd H0 p o) (upd H p o) := by
  have hE : E p = none := by
    cases q : E p with
    | none => rfl
    | some u => exact absurd h (a.there p (by rw [q]; simp))
  exact (a.lay o h).set hE upd_same (a.inn.free h)
theorem Go.mono {m m' : Addr → Prop} {E0 E H0 H : Hp} (a : Go m E0 E H0 H) (h : ∀ x, m x → m' x) : Go m' E0 E H0 H := ⟨a.up, a.inn, a.new, fun b o q n => a.keep b o q fun z => n (h b z), a.there⟩
/-- fresh now: fresh at the entry, and unsettled -/
theorem Go.fresh {m : Addr → Prop} {E0 E H0 H : Hp} {p : Addr} (a : Go m E0 E H0 H) (h : H p = none) : E p = none := by
  cases q : E p with
  | none => rfl
  | some u => exact absurd h (a.there p (by rw [q]; simp))
theorem Go.fresh0 {m : Addr → Prop} {E0 E H0 H : Hp} {p : Addr} (a : Go m E0 E H0 H) (h : H p = none) : H0 p = none := a.inn.free h
/-! ### the drawing's list -/
structure Dr (H0 H : Hp) (d : Addr) : Prop where
  ex : ∃ (a : Addr) (ns : List Int) (i j k l : Int), H d = some (.lst [.ref a, .int i, .int j, .int k, .int l]) ∧ H0 a = some (.lst (ns.map V.int)) ∧ 0 ≤ i ∧ 0 ≤ j ∧ 0 ≤ k ∧ k < 2000000000
  out : H0 d = none
theorem Dr.mono {H0 H H0' : Hp} {d : Addr} (x : Dr H0 H d) (e : Ex H0 H0') (n : H0' d = none) : Dr H0' H d := by
  obtain ⟨⟨a, ns, i, j, k, l, h1, h2, h3⟩, _⟩ := x
  exact ⟨⟨a, ns, i, j, k, l, h1, e _ _ h2, h3⟩, n⟩
theorem Dr.known {H0 H : Hp} {d : Addr} (x : Dr H0 H d) : H d ≠ none := by
  obtain ⟨⟨a, ns, i, j, k, l, h1, _⟩, _⟩ := x
  rw [h1]; simp
/-- a pure step leaves the drawing -/
theorem Dr.go {m : Addr → Prop} {H0 H H0' H' : Hp} {d : Addr} (x : Dr H0 H d) (g : Go m H0 H H0' H') (n : ¬ m d) : Dr H0' H' d := by
  have k := x.known
  obtain ⟨⟨a, ns, i, j, k', l, h1, h2, h3⟩, o⟩ := x
  exact ⟨⟨a, ns, i, j, k', l, g.keep _ _ h1 n, g.up _ _ h2, h3⟩, g.new d k o⟩
theorem Dr.lay {H0 H : Hp} {d p : Addr} (o : HO) (x : Dr H0 H d) (h : H p = none) : Dr H0 (upd H p o) d := by
  have k := x.known
  obtain ⟨⟨a, ns, i, j, k', l, h1, h2⟩, n⟩ := x
  exact ⟨⟨a, ns, i, j, k', l, by rw [upd_ne (ne_of_none h1 h)]; exact h1, h2⟩, n⟩
theorem Dr.turn {H0 H : Hp} {d p : Addr} (o : HO) (x : Dr H0 H d) (h : d ≠ p) : Dr H0 (upd H p o) d := by
  obtain ⟨⟨a, ns, i, j, k', l, h1, h2⟩, n⟩ := x
  exact ⟨⟨a, ns, i, j, k', l, by rw [upd_ne h]; exact h1, h2⟩, n⟩
theorem Dr.set {H0 H : Hp} {d p : Addr} (o : HO) (x : Dr H0 H d) (h0 : H0 p = none) (h : d ≠ p) : Dr (upd H0 p o) H d := x.mono (Ex.new h0) (by rw [upd_ne h]; exact x.out)
theorem Dr.ne {H0 H : Hp} {d p : Addr} (x : Dr H0 H d) (h : H p = none) : d ≠ p := fun z => x.known (z ▸ h)
theorem Ex.lay {H0 H : Hp} {p : Addr} (o : HO) (e : Ex H0 H) (h : H p = none) : Ex H0 (upd H p o) := e.trans (Ex.new h)
theorem Ex.turn {H0 H : Hp} {p : Addr} (o : HO) (e : Ex H0 H) (h : H0 p = none) : Ex H0 (upd H p o) := fun x u q => by
  rw [upd_ne (ne_of_none q h)]
  exact e x u q
theorem Ex.set {H0 H : Hp} {p : Addr} {o : HO} (e : Ex H0 H) (h : H p = some o) : Ex (upd H0 p o) H := fun x u q => by
  by_cases z : x = p
  · rw [z, upd_same] at q
    rw [z, h, q]
  · rw [upd_ne z] at q
    exact e x u q
/-- where a drawing def stands: A0, A at its entry, H0, H now -/
structure Sd (d : Addr) (A0 A H0 H : Hp) : Prop where
  go : Go (· = d) A0 A H0 H
  dr : Dr H0 H d
theorem Sd.ex {d : Addr} {A0 A H0 H : Hp} (S : Sd d A0 A H0 H) : Ex H0 H := S.go.inn
theorem Sd.here {d : Addr} {H0 H : Hp} (e : Ex H0 H) (x : Dr H0 H d) : Sd d H0 H H0 H := ⟨Go.refl e, x⟩
theorem Sd.call {d : Addr} {A0 A H0 H H0' H' : Hp} (S : Sd d A0 A H0 H) (g : Go (· = d) H0 H H0' H') (x : Dr H0' H' d) : Sd d A0 A H0' H' := ⟨S.go.then g, x⟩
theorem Sd.pure {d : Addr} {A0 A H0 H H0' H' : Hp} (S : Sd d A0 A H0 H) (g : Go (fun _ => False) H0 H H0' H') : Sd d A0 A H0' H' := ⟨S.go.trans g fun _ _ z => z.elim, S.dr.go g fun z => z⟩
theorem Sd.put {d p : Addr} {A0 A H0 H : Hp} (o : HO) (S : Sd d A0 A H0 H) (h : H p = none) : Sd d A0 A (upd H0 p o) (upd H p o) := ⟨S.go.put o h, (S.dr.lay o h).set o (S.ex.free h) (S.dr.ne h)⟩
theorem Sd.lay {d p : Addr} {A0 A H0 H : Hp} (o : HO) (S : Sd d A0 A H0 H) (h : H p = none) : Sd d A0 A H0 (upd H p o) := ⟨S.go.lay o h, S.dr.lay o h⟩
theorem Sd.turn {d p : Addr} {A0 A H0 H : Hp} (o : HO) (S : Sd d A0 A H0 H) (h : A p = none) (h0 : H0 p = none) (n : d ≠ p) : Sd d A0 A H0 (upd H p o) := ⟨S.go.turn o h h0, S.dr.turn o n⟩
theorem Sd.set {d p : Addr} {A0 A H0 H : Hp} {o : HO} (S : Sd d A0 A H0 H) (h : A p = none) (hp : H p = some o) (h0 : H0 p = none) (n : d ≠ p) : Sd d A0 A (upd H0 p o) H := ⟨S.go.set h hp h0, S.dr.set o h0 n⟩
/-! ### a def of the text, called by its name; dvs: the defaults that fill up -/
structure Def (P : Program) (w : World) (K : PySem.W.Frag) (mg : Str → Option Value) (base : Heap) (x : Str) (k : Nat) (sp : Sp) (dvs : List V := []) : Prop where
  ex : ∃ (f : Addr) (fd : FuncData) (ps : List Str) (ds : List Value), mg x = some (.ref f) ∧ FnOk P w K mg base CX0 k f fd ps sp ∧ PySem.W.keepIn K (.ref f) = true ∧ Binds K fd ps ds ∧ Vals dvs ds
section
variable {X : Cx} {x : Str} {p pos : Pos} {e : Expr} {es : List Expr} {t : TA} {k : Nat} {sp : Sp} {dvs : List V}
theorem pe_d (D : Def X.prog X.w X.K X.mg X.base x k sp dvs) (hr : Room k X.A) (hg : Gl X x) (ha : PA X (e :: es) t) (hdb : (x == ("__debug__" : Str)) = false := by decide)
    (he : starEach (e :: es) X.env = (false, eval e X.env) :: starEach es X.env := by rfl) (hpl : (backTo pos (starEach es X.env)).any (·.1) = false := by rfl) :
    PE X (.Call (.Name x p) (e :: es) [] pos) (tCall sp dvs E0 t) := by
  obtain ⟨f, fd, ps, ds, h1, h2, h3, h4, h5⟩ := D.ex
  exact pe_call h2 hr hg h1 h3 h4 h5 pass0 ha hdb he hpl
theorem pe_d0 (D : Def X.prog X.w X.K X.mg X.base x k sp dvs) (hr : Room k X.A) (hg : Gl X x) (hdb : (x == ("__debug__" : Str)) = false := by decide) :
    PE X (.Call (.Name x p) [] [] pos) (tCall sp dvs E0 tNil) := by
  obtain ⟨f, fd, ps, ds, h1, h2, h3, h4, h5⟩ := D.ex
  exact pe_call0 h2 hr hg h1 h3 h4 h5 pass0 hdb
end
section
variable {P : Program} {w : World} {K : PySem.W.Frag} {mg : Str → Option Value} {base : Heap} {x qual : Str} {params : Arguments} {body : List Stmt} {scope : Scope} {dvs : List V} {kws : List (Str × V)} {f : Addr} {fd : FuncData}
/-- a def with defaults that lets nothing out -/
theorem okD0 {N ps : List Str} {k : Nat} {sp : Sp} (F : FunD K x qual params body scope dvs kws f fd) (S : FnScope N ps scope) (len : ∀ vs H Q E, sp vs H Q E → vs.length = ps.length)
    (hbody : ∀ (cdv : Value) (A : Around) (outer : List Env) (s : Shared) (H : Hp) (vs : List V) (Q : VK) (E : XK), Room k (A.deeper (envOfC qual scope s.heap.objs.size f cdv)) → sp vs H Q E →
      ∃ t, PSs (cxOf CX0 P w K mg base N qual scope f cdv A outer s H E).nox body t ∧ t { nx := fun _ H' => Q .non H', rt := Q } (start N vs) H) : FnOk P w K mg base CX0 (k + 1) f fd ps sp :=
  F.ok S len fun cdv A outer s H vs Q E hr hsp =>
    let ⟨t, h, q⟩ := hbody cdv A outer s H vs Q E hr hsp
    ⟨t, h.nox, q⟩
end
/-! ### numbers as rows of bytes -/
def gtl (r : Nat) : List Nat := if h : r = 0 then [] else (128 + r % 128) :: gtl (r / 128)
termination_by r
decreasing_by omega
theorem gtl0 : gtl 0 = [] := by rw [gtl]; rfl
theorem gtl1 {r : Nat} (h : r ≠ 0) : gtl r = (128 + r % 128) :: gtl (r / 128) := by
  rw [gtl, dif_neg h]
def gapB (n : Nat) : List Nat := ((n % 128) :: gtl (n / 128)).reverse
def val (l : List Nat) : Nat := l.foldl (fun t b => t * 128 + b % 128) 0
theorem val_snoc (l : List Nat) (b : Nat) : val (l ++ [b]) = val l * 128 + b % 128 := by
  unfold val
  rw [List.foldl_append]
  rfl
theorem val_gtl (r : Nat) : val (gtl r).reverse = r := by
  induction r using Nat.strongRecOn with
  | _ r ih =>
    by_cases h : r = 0
    · subst h
      rw [gtl0]
      rfl
    · rw [gtl1 h, List.reverse_cons, val_snoc, ih (r / 128) (by omega)]
      omega
theorem gapB_eq (n : Nat) : gapB n = (gtl (n / 128)).reverse ++ [n % 128] := by
  unfold gapB
  rw [List.reverse_cons]
theorem val_gapB (n : Nat) : val (gapB n) = n := by
  rw [gapB_eq, val_snoc, val_gtl]
  omega
theorem gtl_len : ∀ (k r : Nat), r < 128 ^ k → (gtl r).length ≤ k
  | 0, r, h => by
    have e : r = 0 := by omega
    subst e
    rw [gtl0]
    exact Nat.zero_le _
  | k + 1, r, h => by
    by_cases z : r = 0
    · subst z
      rw [gtl0]
      exact Nat.zero_le _
    · rw [gtl1 z, List.length_cons]
      have := gtl_len k (r / 128) (by rw [Nat.pow_succ] at h; omega)
      omega
theorem gapB_len {n : Nat} (h : n < 268435456) : (gapB n).length ≤ 4 := by
  rw [gapB_eq, List.length_append, List.length_reverse]
  have := gtl_len 3 (n / 128) (by omega)
  show (gtl (n / 128)).length + 1 ≤ 4
  omega
theorem gapB_pos (n : Nat) : 0 < (gapB n).length := by
  rw [gapB_eq, List.length_append]
  show 0 < _ + 1
  omega
theorem gtl_mono (a b : Nat) (h : a ≤ b) : (gtl a).length ≤ (gtl b).length := by
  induction b using Nat.strongRecOn generalizing a with
  | _ b ih =>
    by_cases z : a = 0
    · subst z
      rw [gtl0]
      exact Nat.zero_le _
    · rw [gtl1 z, gtl1 (show b ≠ 0 by omega), List.length_cons, List.length_cons]
      have := ih (b / 128) (by omega) (a / 128) (by omega)
      omega
theorem gapB_mono {a b : Nat} (h : a ≤ b) : (gapB a).length ≤ (gapB b).length := by
  rw [gapB_eq, gapB_eq, List.length_append, List.length_append, List.length_reverse, List.length_reverse]
  have := gtl_mono (a / 128) (b / 128) (by omega)
  exact Nat.add_le_add_right this _
theorem gtl_big (r b : Nat) (h : b ∈ gtl r) : 128 ≤ b ∧ b < 256 := by
  induction r using Nat.strongRecOn with
  | _ r ih =>
    by_cases z : r = 0
    · subst z
      rw [gtl0] at h
      cases h
    · rw [gtl1 z] at h
      rcases List.mem_cons.mp h with e | e
      · omega
      · exact ih (r / 128) (by omega) e
theorem gtl_last (r b : Nat) (h : (gtl r).getLast? = some b) : b ≠ 128 := by
  induction r using Nat.strongRecOn with
  | _ r ih =>
    by_cases z : r = 0
    · subst z
      rw [gtl0] at h
      cases h
    · rw [gtl1 z] at h
      by_cases z2 : r / 128 = 0
      · rw [z2, gtl0] at h
        have e : 128 + r % 128 = b := Option.some.inj h
        omega
      · rw [List.getLast?_cons] at h
        cases q : (gtl (r / 128)).getLast? with
        | none =>
          rw [gtl1 z2] at q
          simp at q
        | some c =>
          rw [q] at h
          have e : c = b := Option.some.inj h
          subst e
          exact ih (r / 128) (by omega) q
theorem gapB_all (n b : Nat) (h : b ∈ gapB n) : b < 256 := by
  rw [gapB_eq] at h
  rcases List.mem_append.mp h with e | e
  · exact (gtl_big _ _ (List.mem_reverse.mp e)).2
  · have : b = n % 128 := by simpa using e
    omega
theorem gapB_head {n b : Nat} (h : (gapB n)[0]? = some b) (hb : 128 ≤ b) : b ≠ 128 := by
  rw [gapB_eq] at h
  cases q : (gtl (n / 128)).reverse with
  | nil =>
    rw [q] at h
    have e : n % 128 = b := Option.some.inj h
    omega
  | cons c l =>
    rw [q] at h
    have e : c = b := Option.some.inj h
    subst e
    refine gtl_last (n / 128) c ?_
    have z : gtl (n / 128) = l.reverse ++ [c] := by
      have := congrArg List.reverse q
      rw [List.reverse_reverse, List.reverse_cons] at this
      exact this
    rw [z]
    simp
theorem gapB_mid {n i b : Nat} (h : (gapB n)[i]? = some b) (hi : i + 1 < (gapB n).length) : 128 ≤ b := by
  rw [gapB_eq] at h hi
  rw [List.length_append] at hi
  have hi' : i < (gtl (n / 128)).reverse.length := by
    have : i + 1 < (gtl (n / 128)).reverse.length + 1 := hi
    omega
  rw [List.getElem?_append_left hi'] at h
  exact (gtl_big _ _ (List.mem_reverse.mp (List.mem_of_getElem? h))).1
theorem gapB_end {n i b : Nat} (h : (gapB n)[i]? = some b) (hi : i + 1 = (gapB n).length) : b < 128 := by
  rw [gapB_eq] at h hi
  rw [List.length_append] at hi
  have e : i = (gtl (n / 128)).reverse.length := by
    have : i + 1 = (gtl (n / 128)).reverse.length + 1 := hi
    omega
  subst e
  rw [List.getElem?_append_right (Nat.le_refl _), Nat.sub_self] at h
  have e : n % 128 = b := Option.some.inj h
  omega
theorem flat_len : ∀ (l : List Nat), (∀ n ∈ l, n < 268435456) → (l.flatMap gapB).length ≤ 4 * l.length
  | [], _ => Nat.zero_le _
  | n :: l, h => by
    have h1 := flat_len l fun m hm => h m (List.mem_cons_of_mem _ hm)
    have h2 := gapB_len (h n (List.mem_cons_self ..))
    rw [List.flatMap_cons, List.length_append, List.length_cons]
    omega
def nums (l : List Nat) : List V := l.map fun (n : Nat) => V.int (n : Int)
theorem nums_snoc (l : List Nat) (b : Nat) : nums (l ++ [b]) = nums l ++ [.int (b : Int)] := by
  unfold nums
  rw [List.map_append]
  rfl
theorem nums_len (l : List Nat) : (nums l).length = l.length := by
  unfold nums
  rw [List.length_map]
theorem nums_at {l : List Nat} {i b : Nat} (h : l[i]? = some b) : (nums l)[i]? = some (.int (b : Int)) := by
  unfold nums
  rw [List.getElem?_map, h]
  rfl
theorem nums_app (l r : List Nat) : nums (l ++ r) = nums l ++ nums r := by
  unfold nums
  rw [List.map_append]
theorem nums_eq (l : List Nat) : nums l = (l.map fun (n : Nat) => (n : Int)).map V.int := by
  unfold nums
  rw [List.map_map]
  rfl
theorem nums_inv {l : List Nat} {i : Nat} {y : V} (h : (nums l)[i]? = some y) : ∃ b, l[i]? = some b ∧ y = .int (b : Int) := by
  unfold nums at h
  rw [List.getElem?_map] at h
  cases e : l[i]? with
  | none => rw [e] at h; cases h
  | some x => rw [e] at h; exact ⟨x, rfl, (Option.some.inj h).symm⟩
/-! ### names of the language -/
theorem bt_isinstance : bootBuiltins ("isinstance" : Str) = some (.builtin "isinstance") := by decide +kernel
theorem bt_all : bootBuiltins ("all" : Str) = some (.builtin "all") := by decide +kernel
theorem bt_any : bootBuiltins ("any" : Str) = some (.builtin "any") := by decide +kernel
theorem bt_sum : bootBuiltins ("sum" : Str) = some (.builtin "sum") := by decide +kernel
theorem bt_sorted : bootBuiltins ("sorted" : Str) = some (.builtin "sorted") := by decide +kernel
theorem bt_min : bootBuiltins ("min" : Str) = some (.builtin "min") := by decide +kernel
theorem bt_max : bootBuiltins ("max" : Str) = some (.builtin "max") := by decide +kernel
theorem bt_ord : bootBuiltins ("ord" : Str) = some (.builtin "ord") := by decide +kernel
theorem bt_abs : bootBuiltins ("abs" : Str) = some (.builtin "abs") := by decide +kernel
theorem bt_chr : bootBuiltins ("chr" : Str) = some (.builtin "chr") := by decide +kernel
theorem bt_list : bootBuiltins ("list" : Str) = some (.type "list") := by decide +kernel
theorem bt_tuple : bootBuiltins ("tuple" : Str) = some (.type "tuple") := by decide +kernel
theorem bt_int : bootBuiltins ("int" : Str) = some (.type "int") := by decide +kernel
theorem bt_str : bootBuiltins ("str" : Str) = some (.type "str") := by decide +kernel
theorem bt_bool : bootBuiltins ("bool" : Str) = some (.type "bool") := by decide +kernel
theorem bt_dict : bootBuiltins ("dict" : Str) = some (.type "dict") := by decide +kernel
def rLenQ (K : PySem.W.Frag) : List V → Hp → VK → Prop := fun xs H Q => ∃ p ys, xs = [.ref p] ∧ (SqL K H p ys ∨ SqT K H p ys) ∧ Q (.int ys.length) H
theorem call_lenQ {X : Cx} : CallR X (.builtin "len") (rLenQ X.K) := call_len_seq
theorem map_ref {ps : List Addr} {i : Nat} {x : Addr} (h : ps[i]? = some x) : (ps.map V.ref)[i]? = some (.ref x) := by
  rw [List.getElem?_map, h]
  rfl
theorem any_rep (n : Nat) : (List.replicate n false).any id = false := by
  induction n with
  | zero => rfl
  | succ k ih => rw [List.replicate_succ, List.any_cons, ih]; rfl
theorem all_rep (n : Nat) : (List.replicate n true).all id = true := by
  induction n with
  | zero => rfl
  | succ k ih => rw [List.replicate_succ, List.all_cons, ih]; rfl
/-- gap_bytes of a number within its bounds: a new list -/
def spGapBytes : Sp := fun vs H Q _ => ∃ (n : Nat) (H0 : Hp), vs = [.int (n : Int)] ∧ n < 268435456 ∧ Ex H0 H ∧
  ∀ (p : Addr) (H' : Hp), Go (fun _ => False) H0 H H0 H' → H p = none → H' p = some (.lst (nums (gapB n))) → Q (.ref p) H'
theorem str_len (a b : Str) : (a ++ b).length = a.length + b.length := by
  first
    | exact PySem.strLen_append a b
    | exact PySem.Str.length_append a b
theorem log_small {n : Nat} (h : n < 10 ^ 40) : n.log2 < 1920 := by
  by_cases z : n = 0
  · subst z
    decide
  · rw [Nat.log2_lt z]
    exact Nat.lt_of_lt_of_le h (Nat.le_trans (show 10 ^ 40 ≤ 2 ^ 160 by decide) (Nat.pow_le_pow_right (by decide) (by decide)))
theorem txt_sz {a : Str} {i : Int} (ha : a.length ≤ 1000) (h : i.natAbs < 10 ^ 40) : (a ++ (toString i : String)).length ≤ 3000 := by
  have h2 := PyProof.Rows.int_text_len_1921 (log_small h)
  rw [str_len]
  have : (PySem.Str.ofString (toString i)).length ≤ 1921 := h2
  omega
/-! ### data that stand in a heap -/
theorem Ex.tup {K : PySem.W.Frag} {H H' : Hp} {a : Addr} {xs : List V} (e : Ex H H') (h : SqT K H a xs) : SqT K H' a xs := by
  rcases h with (h | ⟨o, h⟩) | h
  · exact .inl (.inl (e _ _ h))
  · exact .inl (.inr ⟨o, e _ _ h⟩)
  · exact .inr h
mutual
theorem dp_up {K : PySem.W.Frag} {H H' : Hp} (e : Ex H H') : ∀ (d : PyData) (v : V), Dp K H v d → Dp K H' v d
  | .none, _, h => by cases h; exact .non
  | .bool b, _, h => by cases h; exact .bl b
  | .int i, _, h => by cases h; exact .int i
  | .str x, _, h => by cases h; exact .str x
  | .list ds, _, h => by
    cases h with
    | lst hs ha => exact .lst (e.seq hs) (dpa_up e ds _ ha)
  | .tuple ds, _, h => by
    cases h with
    | tup hs ha => exact .tup (e.tup hs) (dpa_up e ds _ ha)
  | .dict _, _, h => by cases h
theorem dpa_up {K : PySem.W.Frag} {H H' : Hp} (e : Ex H H') : ∀ (ds : List PyData) (vs : List V), DpAll K H vs ds → DpAll K H' vs ds
  | [], _, h => by cases h; exact .nil
  | d :: ds, _, h => by
    cases h with
    | cons h1 h2 => exact .cons (dp_up e d _ h1) (dpa_up e ds _ h2)
end
theorem dpa_len {K : PySem.W.Frag} {H : Hp} : ∀ {ds : List PyData} {vs : List V}, DpAll K H vs ds → vs.length = ds.length
  | [], _, h => by cases h; rfl
  | d :: ds, _, h => by
    cases h with
    | cons h1 h2 => exact congrArg Nat.succ (dpa_len h2)
theorem dpa_at {K : PySem.W.Frag} {H : Hp} : ∀ (ds : List PyData) (vs : List V) (i : Nat) (d : PyData), DpAll K H vs ds → ds[i]? = some d → ∃ v, vs[i]? = some v ∧ Dp K H v d
  | [], _, _, _, _, h => by simp at h
  | d :: ds, _, 0, d', h, e => by
    cases h with
    | cons h1 h2 =>
      have e := Option.some.inj e
      subst e
      exact ⟨_, rfl, h1⟩
  | d :: ds, _, i + 1, d', h, e => by
    cases h with
    | cons h1 h2 =>
      obtain ⟨v, e1, e2⟩ := dpa_at ds _ i d' h2 e
      exact ⟨v, e1, e2⟩
theorem dep_at : ∀ {ds : List PyData} {i : Nat} {d : PyData}, ds[i]? = some d → d.depth ≤ PyData.depthAll ds
  | [], _, _, e => by simp at e
  | d :: ds, 0, d', e => by
    have e := Option.some.inj e
    subst e
    exact Nat.le_max_left _ _
  | d :: ds, i + 1, d', e => Nat.le_trans (dep_at (ds := ds) e) (Nat.le_max_right _ _)
mutual
/-- no list in it is longer than 100000 -/
def smA : PyData → Prop
  | .list xs => xs.length ≤ 100000 ∧ smAll xs
  | .tuple xs => xs.length ≤ 100000 ∧ smAll xs
  | .dict _ => False
  | .none => True
  | .bool _ => True
  | .int _ => True
  | .str _ => True
def smAll : List PyData → Prop
  | [] => True
  | x :: xs => smA x ∧ smAll xs
end
theorem sm_at : ∀ {ds : List PyData} {i : Nat} {d : PyData}, smAll ds → ds[i]? = some d → smA d
  | [], _, _, _, e => by simp at e
  | d :: ds, 0, d', h, e => by
    have e := Option.some.inj e
    subst e
    exact h.1
  | d :: ds, i + 1, d', h, e => sm_at (ds := ds) h.2 e
theorem tyL {K : PySem.W.Frag} {H : Hp} {a : Addr} {xs : List V} (h : SqL K H a xs) : TyX K H (.ref a) (.type "list") := by
  rcases h with (h | ⟨o, h⟩) | ⟨o, its, n, h1, h2, _⟩
  · exact .base (.lst h)
  · exact .base (.frz h)
  · exact .kList h1 h2
theorem tyT {K : PySem.W.Frag} {H : Hp} {a : Addr} {xs : List V} (h : SqT K H a xs) : TyX K H (.ref a) (.type "tuple") := by
  rcases h with (h | ⟨o, h⟩) | ⟨o, its, n, h1, h2, _⟩
  · exact .base (.tup h)
  · exact .fTuple h
  · exact .kTuple h1 h2
/-- the type of a datum -/
def tyOf : PyData → String
  | .none => "NoneType"
  | .bool _ => "bool"
  | .int _ => "int"
  | .str _ => "str"
  | .list _ => "list"
  | .tuple _ => "tuple"
  | .dict _ => "dict"
theorem tyD {K : PySem.W.Frag} {H : Hp} {v : V} {d : PyData} (h : Dp K H v d) : TyX K H v (.type (tyOf d)) := by
  cases h with
  | non => exact .base .non
  | bl b => exact .base (.bl b)
  | int i => exact .base (.int i)
  | str x => exact .base (.str x)
  | lst hs _ => exact tyL hs
  | tup hs _ => exact tyT hs
theorem pe_nev {X : Cx} {e : Expr} : PE X e (fun _ _ _ => False) := ⟨fun _ _ _ _ _ _ h => h.elim⟩
theorem go_ex {H0 H H0' H' : Hp} (g : Go (fun _ => False) H0 H H0' H') : Ex H H' := fun b o h => g.keep b o h fun z => z
/-! ### ifs -/
theorem ifT {c : Bool} {A B : Prop} (hc : c = true) (h : A) : if c = true then A else B := by
  rw [if_pos hc]
  exact h
theorem ifF {c : Bool} {A B : Prop} (hc : c = false) (h : B) : if c = true then A else B := by
  rw [hc, if_neg Bool.false_ne_true]
  exact h
theorem ifD {c : Prop} [Decidable c] {A B : Prop} (h1 : c → A) (h2 : ¬ c → B) : if decide c = true then A else B := by
  by_cases h : c
  · exact ifT (decide_eq_true h) (h1 h)
  · exact ifF (decide_eq_false h) (h2 h)
theorem mem_sz {n : Nat} (h : n ≤ 1000000) : n ≤ sizeLine := Nat.le_trans h (by rw [sizeLine_eq]; decide)
theorem mem_lt {n : Nat} (h : n ≤ 1000000) : n < sizeLine := Nat.lt_of_le_of_lt h (by rw [sizeLine_eq]; decide)
theorem map_int {ns : List Int} {i : Nat} {x : Int} (h : ns[i]? = some x) : (ns.map V.int)[i]? = some (.int x) := by
  rw [List.getElem?_map, h]
  rfl
theorem map_int_inv {ns : List Int} {i : Nat} {y : V} (h : (ns.map V.int)[i]? = some y) : ∃ x, ns[i]? = some x ∧ y = .int x := by
  rw [List.getElem?_map] at h
  cases e : ns[i]? with
  | none => rw [e] at h; cases h
  | some x => rw [e] at h; exact ⟨x, rfl, (Option.some.inj h).symm⟩
end Rt

namespace Rt
open PySem PySem.Spec PyProof.Rows L2
/-! ### steps of the settled heap, said with a new letter -/
theorem Sd.nw {d p : Addr} {A0 A H0 H : Hp} (S : Sd d A0 A H0 H) (o : HO) (h : H p = none) : ∃ G0 G, upd H p o = G ∧ Sd d A0 A G0 G ∧ G0 p = some o ∧ Ex H0 G0 :=
  ⟨_, _, rfl, S.put o h, upd_same, Ex.new (S.ex.free h)⟩
theorem Go.nw {m : Addr → Prop} {p : Addr} {E0 E H0 H : Hp} (g : Go m E0 E H0 H) (o : HO) (h : H p = none) : ∃ G0 G, upd H p o = G ∧ Go m E0 E G0 G ∧ G0 p = some o ∧ Ex H0 G0 :=
  ⟨_, _, rfl, g.put o h, upd_same, Ex.new (g.inn.free h)⟩
theorem upS {G : Hp} {p b : Addr} {o u : HO} (n : G p = none) (h : G b = some u) : upd G p o b = some u := by
  rw [upd_ne (ne_of_none h n)]
  exact h
end Rt

namespace Rt
open PySem PySem.Spec PyProof.Rows L2
/-! ### shares in lowest terms -/
def gc (t b : Int) : Int := ((Nat.gcd t.natAbs b.natAbs : Nat) : Int)
def sh1 (t b : Int) : Int := t / gc t b
def sh2 (t b : Int) : Int := b / gc t b
theorem gc_pos {t b : Int} (h : 0 < b) : 0 < gc t b := by
  have : 0 < Nat.gcd t.natAbs b.natAbs := Nat.gcd_pos_of_pos_right _ (by omega)
  unfold gc
  omega
theorem gc_l (t b : Int) : gc t b ∣ t := by
  unfold gc
  exact Int.ofNat_dvd_left.mpr (Nat.gcd_dvd_left _ _)
theorem gc_r (t b : Int) : gc t b ∣ b := by
  unfold gc
  exact Int.ofNat_dvd_left.mpr (Nat.gcd_dvd_right _ _)
theorem gc_le {t b : Int} (h : 0 < b) : gc t b ≤ b := Int.le_of_dvd h (gc_r t b)
theorem sh1_eq (t b : Int) : sh1 t b * gc t b = t := Int.ediv_mul_cancel (gc_l t b)
theorem sh2_eq (t b : Int) : sh2 t b * gc t b = b := Int.ediv_mul_cancel (gc_r t b)
theorem sh2_pos {t b : Int} (h : 0 < b) : 0 < sh2 t b := by
  have h1 := sh2_eq t b
  have h2 := gc_pos (t := t) h
  rcases Int.lt_or_le 0 (sh2 t b) with h3 | h3
  · exact h3
  · have := Int.mul_le_mul_of_nonneg_right h3 (Int.le_of_lt h2)
    rw [h1, Int.zero_mul] at this
    omega
theorem sh_cross (t b : Int) : sh1 t b * b = t * sh2 t b := by
  conv => lhs; rhs; rw [← sh2_eq t b]
  conv => rhs; lhs; rw [← sh1_eq t b]
  rw [Int.mul_assoc, Int.mul_comm (gc t b), ]
theorem sh_gcd {t b : Int} (h : 0 < b) : Nat.gcd (sh1 t b).natAbs (sh2 t b).natAbs = 1 := by
  have g := gc_pos (t := t) h
  have g0 : 0 < Nat.gcd t.natAbs b.natAbs := Nat.gcd_pos_of_pos_right _ (by omega)
  have e1 : (sh1 t b).natAbs = t.natAbs / Nat.gcd t.natAbs b.natAbs := by
    have := congrArg Int.natAbs (sh1_eq t b)
    rw [Int.natAbs_mul] at this
    have gg : (gc t b).natAbs = Nat.gcd t.natAbs b.natAbs := rfl
    rw [gg] at this
    exact (Nat.div_eq_of_eq_mul_left g0 this.symm).symm
  have e2 : (sh2 t b).natAbs = b.natAbs / Nat.gcd t.natAbs b.natAbs := by
    have := congrArg Int.natAbs (sh2_eq t b)
    rw [Int.natAbs_mul] at this
    have gg : (gc t b).natAbs = Nat.gcd t.natAbs b.natAbs := rfl
    rw [gg] at this
    exact (Nat.div_eq_of_eq_mul_left g0 this.symm).symm
  rw [e1, e2]
  exact Nat.coprime_div_gcd_div_gcd g0
theorem gc_mul {k t b : Int} (h : 0 < k) : gc (k * t) (k * b) = k * gc t b := by
  unfold gc
  rw [Int.natAbs_mul, Int.natAbs_mul, Nat.gcd_mul_left]
  have : (k.natAbs : Int) = k := Int.natAbs_of_nonneg (Int.le_of_lt h)
  rw [Int.natCast_mul, this]
theorem sh1_mul {k t b : Int} (h : 0 < k) : sh1 (k * t) (k * b) = sh1 t b := by
  unfold sh1
  rw [gc_mul h]
  exact Int.mul_ediv_mul_of_pos _ _ h
theorem sh2_mul {k t b : Int} (h : 0 < k) : sh2 (k * t) (k * b) = sh2 t b := by
  unfold sh2
  rw [gc_mul h]
  exact Int.mul_ediv_mul_of_pos _ _ h
theorem sh1_le (t : Int) {b : Int} (h : 0 < b) : (sh1 t b).natAbs ≤ t.natAbs := by
  have h1 := congrArg Int.natAbs (sh1_eq t b)
  have h2 := gc_pos (t := t) h
  rw [Int.natAbs_mul] at h1
  rw [← h1]
  exact Nat.le_mul_of_pos_right _ (by omega)
theorem sh2_le (t : Int) {b : Int} (h : 0 < b) : sh2 t b ≤ b := by
  have h1 := sh2_eq t b
  have h2 := gc_pos (t := t) h
  have h3 := sh2_pos (t := t) h
  have : sh2 t b * 1 ≤ sh2 t b * gc t b := Int.mul_le_mul_of_nonneg_left (by omega) (by omega)
  rw [h1] at this
  omega
theorem abs_eq (t : Int) : (if t < 0 then -t else t) = ((t.natAbs : Nat) : Int) := by
  split <;> omega
theorem div_ok {t b : Int} (h : 0 < b) (hb : b.natAbs < 2 ^ 4000) : CDivW t (gc t b) := by
  have h1 := gc_pos (t := t) h
  have h2 := gc_le (t := t) h
  exact wide_div (b := 4000) h1 (Nat.lt_of_le_of_lt (by omega) hb) (by decide) (by decide)
/-- share: the pair in lowest terms, a new tuple -/
def spShare : Sp := fun vs H Q _ => ∃ (t b : Int), vs = [.int t, .int b] ∧ 0 < b ∧ b.natAbs < 2 ^ 4000 ∧ ∀ p, H p = none → Q (.ref p) (upd H p (.tup [.int (sh1 t b), .int (sh2 t b)]))
def spGcd : Sp := fun vs H Q _ => ∃ (a b : Nat), vs = [.int (a : Int), .int (b : Int)] ∧ Q (.int ((Nat.gcd a b : Nat) : Int)) H
end Rt

namespace Rt
open PySem PySem.Spec PySem.W PySem.Calls PyProof.Rows Builtin Builtin.ObjectAttr Builtin.Getset_descriptor
/-- the class at C bears the name z -/
structure Nmd (K : PySem.W.Frag) (C : Addr) (z : Str) : Prop where
  rd : PySem.W.readsIn K C (.type "type") = true
  fc : PySem.W.findCls K (.ref C) (.type "type") "__name__" = some (.get (.builtin "getset_descriptor.__get__") (.builtin "type.__name__") (.ref C) (.type "type"))
  ty : PySem.W.typeIn K (.ref C) = some (.type "type")
  nm : ∃ o tk, K.lookup C = some o ∧ (o.slots[2]?).join = some (.str z tk)
section
variable {prog : Program} {w : World} {A : Around} {E : Value → Shared → Prop} {s : Shared} {K : PySem.W.Frag} {R : Result → Shared → Prop}
theorem name_dga (d tp : Value) (C : Addr) : descrGetArgs ⟨[d, .ref C, tp], []⟩ = pure (d, some (.ref C), given tp) := by kernel_rfl
theorem name_get {C : Addr} {z : Str} {tp : Value} (X : K.In s.heap) (N : Nmd K C z) (h : ∀ tk, R (.ok (.ret (.str z tk))) s) :
    codeAny (model prog w) A (.call (.builtin "getset_descriptor.__get__") ⟨[.builtin "type.__name__", .ref C, tp], []⟩) R s := by
  obtain ⟨o, tk, hC, hz⟩ := N.nm
  obtain ⟨hh, g, dr, t, os⟩ := s
  have L0 : PySem.W.Looks (model prog w) hh (typeOf (.ref C)) (.type "type") := looks_typeIn X N.ty
  have L1 : PySem.W.Looks (model prog w) hh (isSubtype (.type "type") (.type "type")) true := Looks.of_pure (by rw [isSubtype_type]; kernel_rfl)
  have hget : hh.get? C = some o := X _ _ hC
  refine codeAny_call_builtin KF.slot_gs.plain KF.entry_gs (KF.slot_gs.check _ _ _ _ _ _ _ _ ktyn_type (KF.args_gs _ _ _) ?_)
  unfold Builtin.«getset_descriptor.__get__» descrGet
  rw [name_dga]
  refine wpAny_bind (wpAny_pure ?_)
  unfold descrGetter descrCheckInstance descrNameAndClass isInstance
  simp only [ktyn_owner]
  repeat lk
  refine ⟨Code.quiet_builtin _ (by decide +kernel), codeAny_builtin ktyn_entry ?_⟩
  unfold Builtin.«type.__name__»
  dsimp only
  unfold Builtin.keptObject slotAt
  refine wpAny_bind (wpAny_bind (wpAny_loadPart_at hget (wpAny_pure ?_)))
  rw [hz]
  exact wpAny_pure (h tk)
/-- C.__name__ -/
theorem name_attr {C : Addr} {z : Str} {expr : Bool} {Q : Value → Shared → Prop} (X : K.In s.heap) (N : Nmd K C z) (h : ∀ tk, Q (.str z tk) { s with toks := s.toks + 1 }) : wpAny (model prog w) A (getAttr (.ref C) "__name__" expr) Q E s := by
  refine cls_bind X N.rd N.fc ?_
  exact wpAny_call (name_get (s := { s with toks := s.toks + 1 }) X N fun tk => handed_on rfl (h tk))
end
/-- what an error's class says of __class__ -/
structure ClsE (K : PySem.W.Frag) (C : Addr) : Prop where
  ga : PySem.W.findIn K (.ref C) "__getattribute__" = some (some (.builtin "BaseException.__getattribute__"))
  gg : PySem.W.findIn K (.ref C) "__getattr__" = some none
  sb : PySem.W.subIn K (.ref C) (.type "BaseException") = some true
  hd : PySem.W.hasDictIn K C = true
  ca : PySem.W.findIn K (.ref C) "__class__" = some (some (.builtin "object.__class__"))
  cg : PySem.W.specialIn K (.builtin "object.__class__") "__get__" = some (some (.builtin "getset_descriptor.__get__"))
  ct : PySem.W.takesIn K (.builtin "object.__class__") = some true
  mo : PySem.W.mroIn K C (.type "object") = some true
section
variable {prog : Program} {w : World} {A : Around} {E : Value → Shared → Prop} {s : Shared} {K : PySem.W.Frag} {x D : Addr} {ox : Obj} {od : Option Obj}
/-- x.__class__ of an error of the class at D -/
theorem cls_attr {expr : Bool} {Q : Value → Shared → Prop} (T : ClsE K D) (X : K.In s.heap) (I : PySem.W.InstAt s.heap x ox D od) (hf : PySem.W.findObj K D od "__class__" = some (.bind (.builtin "getset_descriptor.__get__") (.builtin "object.__class__")))
    (h : Q (.ref D) { s with toks := s.toks + 1 }) : wpAny (model prog w) A (getAttr (.ref x) "__class__" expr) Q E s := by
  obtain ⟨hp, g, d, t, os⟩ := s
  have K0 := I.type (M := model prog w)
  have K1 := looks_findIn (M := model prog w) X T.ga
  have K2 := looks_findIn (M := model prog w) X T.gg
  have K3 := looks_find (M := model prog w) X I hf
  have up : PySem.W.Looks (model prog w) hp (isInstance (.ref x) (.type "BaseException")) true := K0.andThen (looks_subIn X T.sb)
  have b0 : (expr && onTheHeap (Value.builtin "BaseException.__getattribute__")) = false := by cases expr <;> rfl
  have b2 : (Value.builtin "BaseException.__getattribute__" == Value.builtin "object.__getattribute__") = false := by decide +kernel
  have b1 : (onTheHeap (Value.ref D) && Value.builtin "BaseException.__getattribute__" == Value.builtin "object.__getattribute__") = false := by rw [b2]; rfl
  unfold getAttr getAttrBy
  refine wpAny_bind (wpAny_mkText ?_)
  refine wpAny_holding (wpAny_bind (K0.at (wpAny_bind (K1.at ?_))))
  show wpAny _ _ (if (onTheHeap (Value.ref D) && Value.builtin "BaseException.__getattribute__" == Value.builtin "object.__getattribute__") = true then _ else _) _ _ _
  rw [b1]
  rw [if_neg Bool.false_ne_true]
  unfold getAttrByItsOwn hookBefore
  refine wpAny_bind ?_
  rw [if_pos (show onTheHeap (Value.ref D) = true by rfl)]
  refine K2.at (wpAny_bind (wpAny_attempt ?_))
  refine wpAny_holding ?_
  unfold callGetattribute
  rw [b0]
  rw [if_neg Bool.false_ne_true]
  unfold boundAndCalled
  rw [PySem.F.excAttr_ValueError.ga.bind (Value.ref x)]
  refine wpAny_bind (wpAny_pure ?_)
  show wpAny _ _ (call (.builtin "BaseException.__getattribute__") [.ref x, .str "__class__" t]) _ _ _
  refine wpAny_call ?_
  refine codeAny_call_builtin PySem.F.excAttr_ValueError.ga.plain PySem.F.entry_bexc_ga ?_
  refine @check_slot (model prog w) _ _ ⟨hp, g, d, t + 1, os⟩ "BaseException.__getattribute__" "BaseException" "__getattribute__" (.ref x) [.str "__class__" t] [] _ (by decide +kernel) (by decide +kernel) up (PySem.F.args_bexc_ga (.ref x) (.str "__class__" t)) ?_
  unfold Builtin.«object.__getattribute__»
  refine wpAny_bind (wpAny_of_eq (a := ((Value.ref x : Value), [Value.str "__class__" t])) (by first | rfl | (simp only [slotArgs]; rfl)) ?_)
  refine wpAny_bind (wpAny_pure (wpAny_bind (K0.at ?_)))
  refine wpAny_bind (K3.at ?_)
  show wpAny _ _ (holding [Value.builtin "object.__class__"] (call (.builtin "getset_descriptor.__get__") [.builtin "object.__class__", .ref x, .ref D]) >>= ret) _ _ _
  refine wpAny_bind (wpAny_holding (wpAny_call ?_))
  refine class_get (s := ⟨hp, g, d, t + 1, os⟩) (ox := ox) (od := od) X I T.mo ?_
  first
    | exact wpAny_pure (handed_on rfl (wpAny_pure h))
    | exact wpAny_pure (handed_on rfl h)
    | exact wpAny_pure (wpAny_bind (handed_on rfl (wpAny_pure h)))
end
end Rt

namespace Rt
open PySem PySem.Spec PyProof.Rows L2
/-! ### errors with the field called -/
def tCN (K : PySem.W.Frag) (te : TE) : TE := fun σ H Q => te σ H fun x H1 => ∃ (a C : Addr) (z : Str), x = .ref a ∧ ClsE K C ∧ Nmd K C z ∧ H1 a = some (exo a C none) ∧ Q (.str z) H1
/-- self.__class__.__name__ of an error that is being made -/
theorem pe_cn {X : Cx} {o : Expr} {te : TE} {p1 p2 : Pos} (ho : PE X o te) (hb1 : attributeBase o "__class__" X.env (eval o X.env) = eval o X.env := by rfl)
    (hb2 : attributeBase (.Attribute o "__class__" p1) "__name__" X.env (eval (.Attribute o "__class__" p1) X.env) = eval (.Attribute o "__class__" p1) X.env := by rfl) :
    PE X (.Attribute (.Attribute o "__class__" p1) "__name__" p2) (tCN X.K te) := by
  refine ⟨fun pins s σ H Q I h => ?_⟩
  refine attr_of hb2 (attr_of hb1 (thn (ho.run pins s σ H _ I h) fun u s1 hh => ?_))
  obtain ⟨x, H1, I1, rx, a, C, z, ex, T, N, ea, q⟩ := hh
  subst ex
  obtain rfl : u = Value.ref a := rx
  obtain ⟨t1, he⟩ := exo_at I1.hok ea
  have J : PySem.W.InstAt s1.heap a _ C none := ⟨he, rfl, rfl, trivial⟩
  have hf := PySem.W.findObj_dataN (K := X.K) (C := C) (name := "__class__") (by obtain ⟨cd, hc, _⟩ := PySem.W.any_some T.hd; rw [hc]; rfl) T.ca T.cg T.ct
  refine cls_attr T I1.kIn J hf ?_
  have I2 := I1.tok (s1.toks + 1)
  refine name_attr I2.kIn N fun tk => ?_
  exact ⟨.str z, H1, I2.tok _, ⟨tk, rfl⟩, q⟩
/-- all that a raise asks of an error's class: its name, its class object, the word that its errors bear -/
structure Err (K : PySem.W.Frag) (mg : Str → Option Value) (x : Str) (C : Addr) (z word : Str) : Prop where
  g : mg x = some (.ref C)
  oex : OexC K C
  cls : ClsE K C
  nmd : Nmd K C z
  nc : PySem.W.findIn K (.ref C) "called" = some none
  low : Txt.lower z = word
  sz : z.length ≤ 1000
/-- TapeError.__init__ (and its like): self.called is the class's name in small letters -/
def spInit (K : PySem.W.Frag) : Sp := fun vs H Q _ => ∃ (a C : Addr) (why : V) (z : Str), vs = [.ref a, why] ∧ OexC K C ∧ ClsE K C ∧ Nmd K C z ∧ PySem.W.findIn K (.ref C) "called" = some none ∧ z.length ≤ 1000 ∧ H a = some (exo a C none) ∧
  ∀ dx, H dx = none → dx ≠ a → Q .non (upd (upd H dx (exd dx [("called", .str (Txt.lower z))])) a (exo a C (some dx)))
/-- the rule of __init__ as the program has it -/
theorem init_reads {K : PySem.W.Frag} {Q : VK} {E : XK} {vs : List V} {H : Hp} (h : spInit K vs H Q E) :
    tSeq (tDrop (tVeI K (tCons (tVar 0) (tCons (tVar 1) tNil)))) (tSeq (tAsg (tCN K (tVar 0)) (gName 2)) (tOst K "called" (tVar 0) (fun σ H Q => (tVar 2) σ H fun x H1 => ∃ a, x = .str a ∧ ([] : List V) = [] ∧ a.length ≤ 5592405 ∧ Q (.str (Txt.lower a)) H1)))
      { nx := fun _ H' => Q .non H', rt := Q } (L2.start ["self", "why", "name"] vs) H := by
  obtain ⟨a, C, why, z, rfl, T1, T2, T3, T4, hz, ha, q⟩ := h
  refine ⟨_, rfl, _, rfl, a, C, _, rfl, (by show 1 ≤ 1000; decide), T1, ha, ?_⟩
  refine ⟨_, rfl, a, C, z, rfl, T2, T3, ha, ?_⟩
  refine ⟨_, rfl, _, rfl, rfl, by omega, ?_⟩
  exact ⟨_, rfl, a, C, rfl, T1, T4, .inl ⟨ha, fun dx h1 h2 => q dx h1 h2⟩⟩
end Rt

namespace Rt
open PySem PySem.Spec PyProof.Rows L2
/-! ### several clauses, each with a name (slot i) -/
abbrev wipeEnds (i : Nat) (D : Ends) : Ends := { nx := fun τ G => D.nx (τ.set i none) G, rt := D.rt, bk := fun τ G => D.bk (τ.set i none) G, ct := fun τ G => D.ct (τ.set i none) G }
def wAll (K : PySem.W.Frag) (i : Nat) (W0 : WX) (D : Ends) : List (Value × (Addr → Value → Option Addr → TS)) → WX
  | [] => W0
  | p :: r => fun cls d τ G => ∃ b, PySem.W.exmOne K cls p.1 = some b ∧ (b = true → ∀ a, G a = none → p.2 a cls d (wipeEnds i D) (τ.set i (some (.ref a))) G) ∧ (b = false → wAll K i W0 D r cls d τ G)
inductive Hds (X : Cx) (n : Str) : List ExceptHandler → List (Value × (Addr → Value → Option Addr → TS)) → Prop
  | nil : Hds X n [] []
  | cons {x : Str} {c : Value} {ts : Addr → Value → Option Addr → TS} {b₀ : Stmt} {su : List Stmt} {np q : Pos} {hds : List ExceptHandler} {l : List (Value × (Addr → Value → Option Addr → TS))} (hc : Names X x c)
      (go : ∀ (a : Addr) (oe : Obj) (cls : Value) (d : Option Addr) (pn : List (Addr × Obj)), Zc cls d oe → (∃ vs, oe.data = .fields vs) → PSs (X.suite a ((a, oe) :: pn)) (b₀ :: su) (ts a cls d)) (r : Hds X n hds l) :
      Hds X n (.ExceptHandler (some (.Name x np)) (some n) (b₀ :: su) q :: hds) ((c, ts) :: l)
section
variable {X : Cx} {n : Str} {i : Nat} {body : List Stmt} {h1 : ExceptHandler} {hds : List ExceptHandler} {l : List (Value × (Addr → Value → Option Addr → TS))} {pos : Pos} {tb : WX → TS} {W0 : WX}
theorem ps_try_all (hs : X.stack = X.env :: X.outer) (hf : X.env.frame = some X.env.locals) (hN : X.N.Nodup) (hi : X.N[i]? = some n) (hln : X.env.kindOf n = some .local) (tk : Takes X W0)
    (hb : ∀ (W : WX) (pn : List (Addr × Obj)) (xe : Value → Shared → Prop), Takes (X.tr pn xe) W → PassesOwn (model X.prog X.w) X.A X.env xe → PSs (X.tr pn xe) body (tb W))
    (hh : Hds X n (h1 :: hds) l) : PS X (.Try body (h1 :: hds) [] [] pos) (fun D σ H => tb (wAll X.K i W0 D l) D σ H) := by
  refine ⟨fun pins s σ H D I h => ?_⟩
  have ok := I.ok
  have frm : X.A.frames = some (X.env :: X.outer) := by
    rw [ok.frames, hs]
  have nloc : Loc X.env.scope n := Or.inl hln
  have run := (hb (wAll X.K i W0 D l) (X.pn ++ pins) (fun e s₁ => wpAny (model X.prog X.w) X.A (noteFrame e X.env) (fun _ s₂ => wpAny (model X.prog X.w) X.A (setFlight e none) (fun _ s₃ =>
    wpAny (model X.prog X.w) X.A (handleBy e X.env (h1 :: hds)) (SP X pins D) X.xe s₃) X.xe s₂) X.xe s₁) (fun u s' xx => ?_) PassesOwn.looking).run [] s σ H D (I.toTry _) h
  · refine wpAny_Try_except (wpAny_mono run (fun f s1 hsp => ?_) (fun e s1 he => he))
    cases f with
    | next =>
      obtain ⟨τ, G, J, q⟩ := hsp
      exact wpAny_execs_nil ⟨τ, G, J.ofTry ok, q⟩
    | brk =>
      obtain ⟨τ, G, J, q⟩ := hsp
      exact ⟨τ, G, J.ofTry ok, q⟩
    | cont =>
      obtain ⟨τ, G, J, q⟩ := hsp
      exact ⟨τ, G, J.ofTry ok, q⟩
    | ret u =>
      obtain ⟨v, τ, G, J, r, q⟩ := hsp
      exact ⟨v, τ, G, J.ofTry ok, r, q⟩
  · obtain ⟨a, B, sI, pins', τ, G, cls, d, rfl, J', nb, up, sky, na, os, ag, w⟩ := xx
    have J : Inv X pins τ G sI := J'.ofTry ok
    have sky1 : Sky B (X.env :: X.outer) a (Zc cls d) X.env.locals s'.heap := by
      rw [← hs]; exact sky
    show wpAny (model X.prog X.w) X.A (noteFrame (.ref a) X.env) _ _ _
    refine Sky.land Zc.steady frm hf sky1 fun h3 fl3 up3 => ?_
    have J3 : Inv X pins τ G { s' with heap := h3 } := J.landed nb fl3.1 (up.trans up3) os ag
    obtain ⟨oe3, vs3, he3, hz3, hd3⟩ := fl3.there
    have off : ∀ {k : Heap} {o : Obj} {vs : Array Value}, k.FunFrames B (X.env :: X.outer) → k.get? a = some o → o.data = .fields vs → a ∉ frs (X.env :: X.outer) := by
      intro k o vs ff e dd hm
      obtain ⟨_, o', e', hnf⟩ := ff.mem hm
      rw [e] at e'
      cases e'
      exact hnf _ dd
    have nfr := off fl3.2.2.1 he3 hd3
    have nL : a ≠ X.env.locals := by
      intro z
      exact nfr (List.mem_filterMap.mpr ⟨X.env, List.mem_cons_self, by rw [hf, z]⟩)
    have nF : a ∉ X.fs := by
      intro hm
      obtain ⟨e, he, q⟩ := List.mem_filterMap.mp hm
      exact nfr (List.mem_filterMap.mpr ⟨e, List.mem_cons_of_mem _ he, q⟩)
    have S3 := J3.suite he3 hd3 na nL nF
    have go : ∀ {hds' : List ExceptHandler} {l' : List (Value × (Addr → Value → Option Addr → TS))}, Hds X n hds' l' → wAll X.K i W0 D l' cls d τ G →
        wpAny (model X.prog X.w) X.A (handleBy (.ref a) X.env hds') (SP X pins D) X.xe { s' with heap := h3 } := by
      intro hds' l' hk
      induction hk with
      | nil =>
        intro w
        refine wpAny_handleBy_nil ?_
        obtain ⟨k1, k2, k3, oe, vs, T, oT, ts', he, hz, hd, hv1, hr⟩ := id fl3
        unfold PySem.passOn
        refine wpAny_bind (wpAny_field he hd hv1 ?_)
        rw [if_neg (show ¬ ((Value.ref T == Value.none) = true) by simp)]
        have out : wpAny (model X.prog X.w) X.A (setFlight (.ref a) X.env.frame) (fun _ s4 => wpAny (model X.prog X.w) X.A (throw (.ref a) : Sem Flow) (SP X pins D) X.xe s4) X.xe { s' with heap := h3 } := by
          rw [hf]
          refine HandSPX.setFlight_upZ fl3 fun h4 hh4 up4 => ?_
          refine wpAny_throw (tk _ _ ⟨a, B, sI, pins, τ, G, cls, d, rfl, J, nb, (up.trans up3).trans up4, ?_, na, os, ag, w⟩)
          exact Or.inr (Or.inr (by rw [hs]; exact hh4))
        first
          | exact wpAny_bind (wpAny_pure (wpAny_bind out))
          | exact wpAny_bind out
      | @cons x c ts b₀ su np q hds2 l2 hc hsu r ih =>
        intro w
        obtain ⟨b, hb1, hyes, hno⟩ := w
        refine wpAny_handleBy_cons (codeAny_handlers_test ?_) (by intro q; cases q)
        have LT : PySem.W.Looks (model X.prog X.w) h3 (typeOf (.ref a)) cls := by
          intro A Q E s k q
          exact wpAny_typeOf_ref (k _ _ he3) (by rw [hz3.1]; exact q)
        have LM := PySem.W.exm_one (M := model X.prog X.w) (J3.kIn) LT hb1
        have test : ∀ {Q : Value → Shared → Prop} {E : Value → Shared → Prop}, Q c { s' with heap := h3 } → wpAny (model X.prog X.w) (X.A.mark (some (.ref a))) (eval (.Name x np) X.env) Q E { s' with heap := h3 } := by
          intro Q E q
          obtain ⟨hg, hdbg, hm⟩ := hc
          rcases hm with hm | ⟨hm, hv, hnn⟩
          · exact ld_glob (X := X.suite a ((a, oe3) :: (X.pn ++ pins))) S3 hg hm q hdbg
          · exact ld_blt (X := X.suite a ((a, oe3) :: (X.pn ++ pins))) S3 hg hm hv q hnn hdbg
        refine test (LM.here ?_)
        cases b with
        | false =>
          show wpAny _ X.A (handleBy (.ref a) X.env hds2) _ _ _
          exact ih (hno rfl)
        | true =>
          refine codeAny_handlers_suite_as (HandSPX.lands_againZ fl3 fun h4 fl4 up4 => ?_)
          have J4 : Inv X pins τ G { s' with heap := h4 } := J.landed nb fl4.1 ((up.trans up3).trans up4) os ag
          obtain ⟨oe4, vs4, he4, hz4, hd4⟩ := fl4.there
          have S4 := J4.suite he4 hd4 na nL nF
          refine store_ok (X := X.suite a ((a, oe4) :: (X.pn ++ pins))) (v := .ref a) S4 hN hi nloc rfl (fun s5 S5 => ?_) (Or.inr hln)
          have fin : ∀ {τ6 : L2.St} {G6 : Hp} {s6 : Shared} {Q : Shared → Prop}, Inv (X.suite a ((a, oe4) :: (X.pn ++ pins))) [] τ6 G6 s6 → (∀ s7, Inv X pins (τ6.set i none) G6 s7 → Q s7) →
              wpAny (model X.prog X.w) X.A (do bindName X.env n .none; unbindBehindTheSuite X.env n q) (fun _ s7 => Q s7) X.xe s6 := by
            intro τ6 G6 s6 Q S6 hq
            exact gone_ok (S6.unsuite ok) hN hi hln hq
          refine wpAny_mono ((hsu a oe4 cls d (X.pn ++ pins) hz4 ⟨_, hd4⟩).run [] s5 _ G _ S5 (hyes rfl a na)) (fun f s6 hsp => ?_) (fun _ _ z => False.elim z)
          cases f with
          | next =>
            obtain ⟨τ6, G6, S6, q6⟩ := hsp
            exact fin S6 fun s7 J7 => ⟨_, _, J7, q6⟩
          | brk =>
            obtain ⟨τ6, G6, S6, q6⟩ := hsp
            exact fin S6 fun s7 J7 => ⟨_, _, J7, q6⟩
          | cont =>
            obtain ⟨τ6, G6, S6, q6⟩ := hsp
            exact fin S6 fun s7 J7 => ⟨_, _, J7, q6⟩
          | ret u =>
            obtain ⟨v6, τ6, G6, S6, r6, q6⟩ := hsp
            exact fin S6 fun s7 J7 => ⟨_, _, _, J7, r6, q6⟩
    exact go hh w
end
end Rt

namespace Rt
open PySem PySem.Spec PyProof.Rows L2
/-- an error of the program, in flight: its class bears word (tape: under TapeError, else under MissingError); nothing else is turned -/
structure Raised (K : PySem.W.Frag) (mg : Str → Option Value) (word : Str) (tape : Bool) (H : Hp) (cls : Value) (d : Option Addr) (H' : Hp) : Prop where
  ex : ∃ (C CT CM dd : Addr), cls = .ref C ∧ d = some dd ∧ H dd = none ∧ H' = upd H dd (.xd [("called", .str word)]) ∧ XfC K C ∧ PySem.W.findIn K (.ref C) "called" = some none ∧
    mg "TapeError" = some (.ref CT) ∧ mg "MissingError" = some (.ref CM) ∧ PySem.W.exmOne K (.ref C) (.ref CT) = some tape ∧ (tape = false → PySem.W.exmOne K (.ref C) (.ref CM) = some true)
/-- an error's class with its __init__ (level k) -/
structure ErrK (P : Program) (w : World) (K : PySem.W.Frag) (mg : Str → Option Value) (base : Heap) (k : Nat) (x word : Str) (tape : Bool) : Prop where
  ex : ∃ (C CT CM fI : Addr) (z : Str) (fd : FuncData), Err K mg x C z word ∧ PySem.W.findIn K (.ref C) "__init__" = some (some (.ref fI)) ∧ PySem.W.typeIn K (.ref fI) = some (.type "function") ∧
    FnOk P w K mg base CX0 k fI fd ["self", "why"] (spInit K) ∧ Binds K fd ["self", "why"] [] ∧ XfC K C ∧
    mg "TapeError" = some (.ref CT) ∧ mg "MissingError" = some (.ref CM) ∧ PySem.W.exmOne K (.ref C) (.ref CT) = some tape ∧ (tape = false → PySem.W.exmOne K (.ref C) (.ref CM) = some true)
/-- raise X(why) -/
def tRaiseK (K : PySem.W.Frag) (mg : Str → Option Value) (word : Str) (tape : Bool) (W : WX) (ta : TA) : TS := fun _ σ H => ta σ H fun vs H1 => ∃ why, vs = [why] ∧ ∀ cls d H', Raised K mg word tape H1 cls d H' → W cls d σ H'
/-- a reading with room: what is read may be weakened -/
def tUp (ta : TA) : TA := fun σ H Q => ∃ R : List V → Hp → Prop, ta σ H R ∧ ∀ vs H1, R vs H1 → Q vs H1
theorem pa_up {X : Cx} {es : List Expr} {ta : TA} (ha : PA X es ta) : PA X es (tUp ta) := ⟨fun pos pins s σ H Q I ⟨R, h, imp⟩ => thn (ha.run pos pins s σ H R I h) fun us s1 ⟨vs, H1, I1, r, q⟩ => ⟨vs, H1, I1, r, imp vs H1 q⟩⟩
section
variable {X : Cx} {x word : Str} {tape : Bool} {k : Nat} {e : Expr} {es : List Expr} {ta : TA} {W : WX} {p pos pos2 : Pos}
theorem ps_raiseK (hc : X.calm = true) (T : ErrK X.prog X.w X.K X.mg X.base k x word tape) (hr : Room (k + 1) X.A) (tk : Takes X W) (hg : Gl X x) (ha : PA X (e :: es) ta) (hdb : (x == ("__debug__" : Str)) = false := by decide)
    (he : starEach (e :: es) X.env = (false, eval e X.env) :: starEach es X.env := by rfl) (hpl : (backTo pos (starEach es X.env)).any (·.1) = false := by rfl) :
    PS X (.Raise (some (.Call (.Name x p) (e :: es) [] pos)) none pos2) (tRaiseK X.K X.mg word tape W ta) := by
  obtain ⟨C, CT, CM, fI, z, fd, R, iC, tI, F1, hb, xf, g1, g2, m1, m2⟩ := T.ex
  have mk := pmk_oex (X := X) (CX := CX0) (p := p) (pos := pos) R.oex iC tI F1 hr hb .nil pass0 hg R.g (pa_up ha) hdb he hpl
  have rs := ps_raise (pos := pos2) hc tk mk
  refine ⟨fun pins s σ H D I h => rs.run pins s σ H D I ?_⟩
  -- from our reading to the rule's
  have imp : ∀ (vs : List V) (H1 : Hp), (∃ why, vs = [why] ∧ ∀ cls d H', Raised X.K X.mg word tape H1 cls d H' → W cls d σ H') →
      vs.length ≤ 1000 ∧ ∀ a, H1 a = none → spInit X.K (.ref a :: (vs ++ [])) (upd H1 a (exo a C none))
        (fun v H2 => v = .non ∧ ∃ (d : Addr) (fs : List (Str × V)), H2 a = some (exo a C (some d)) ∧ H2 d = some (exd d fs) ∧ H1 d = none ∧ W (.ref C) (some d) σ (upd (del H2 a) d (.xd fs))) (fun _ _ _ => False) := by
    rintro vs H1 ⟨why, rfl, q⟩
    refine ⟨(by show 1 ≤ 1000; decide), fun a ha => ⟨a, C, why, z, rfl, R.oex, R.cls, R.nmd, R.nc, R.sz, upd_same, fun dx hdx nda => ⟨rfl, dx, [("called", .str (Txt.lower z))], upd_same, ?_, ?_, ?_⟩⟩⟩
    · rw [upd_ne nda, upd_same]
    · rw [upd_ne nda] at hdx
      exact hdx
    · rw [upd_ne nda] at hdx
      refine q _ _ _ ⟨C, CT, CM, dx, rfl, rfl, hdx, ?_, xf, R.nc, g1, g2, m1, m2⟩
      funext b
      by_cases e1 : b = dx
      · rw [e1, upd_same, upd_same, R.low]
      · rw [upd_ne e1, upd_ne e1]
        by_cases e2 : b = a
        · rw [e2, del_same, ha]
        · rw [del_ne e2, upd_ne e2, upd_ne e1, upd_ne e2]
  exact ⟨_, h, imp⟩
end
end Rt

namespace Rt
open PySem PySem.Spec PyProof.Rows L2 LamX
/-! ### a def that is handed a lambda and calls it; what is raised is wished for at the slots -/
section
variable {X : Cx} {pins : List (Addr × Obj)} {σ : L2.St} {H : Hp} {s : Shared}
theorem pe_ask {CXg : CXT} {Eg : XK} {Ng : List Str} {qg : Str} {sg : Scope} {g f c' : Addr} {cdg pm ctv : Value} {params : Arguments} {body : Expr} {scope : Scope} {k i : Nat} {a : Str} {pn : List (Addr × Obj)} {xe : Value → Shared → Prop} {W : WX} {tb : XK → TE} {p1 p2 : Pos}
    (I : Inv X pins σ H s) (L : LamS X.env.scope scope) (hf : s.heap.get? f = some (PySem.W.kla_obj "<lambda>" (X.env.qual ++ "<lambda>") params body scope (cloFrom X.env.cells scope.names []) pm c' ctv)) (hfn : H f = none) (hfr : f ∉ frs X.stack)
    (hbind : bindArgs (PySem.W.kla_fn "<lambda>" (X.env.qual ++ "<lambda>") params body scope (cloFrom X.env.cells scope.names []) pm (.ref c') ctv) ⟨[], []⟩ = pure [])
    (tk : Takes ((cxOf CXg X.prog X.w X.K X.mg X.base Ng qg sg g cdg X.A X.stack s H Eg).tr pn xe) W) (hr : Room (k + 1) (X.A.deeper (envOfC qg sg s.heap.objs.size g cdg)))
    (hbody : ∀ (E : XK) (A : Around) (outer : List Env) (s : Shared) (H : Hp), Room k (A.deeper (lamEnv X scope s.heap.objs.size f c')) → PE (lamCx X A outer s H E scope f c') body (tb E))
    (hN : Ng[i]? = some a) (hv : Vis sg a) (hd : (a == ("__debug__" : Str)) = false := by decide) (hcd : (a == ("__classdict__" : Str)) = false := by decide) :
    PE ((cxOf CXg X.prog X.w X.K X.mg X.base Ng qg sg g cdg X.A X.stack s H Eg).tr pn xe) (.Call (.Name a p1) [] [] p2)
      (fun τ G Q => τ[i]? = some (some (.ref f)) ∧ G c' = some (CodeO c' (X.env.qual ++ "<lambda>")) ∧ ∃ (Ec : XK) (R : VK), (∀ cls d G', Ec cls d G' → W cls d τ G') ∧ (∀ v G', R v G' → Q v G') ∧ tb Ec σ G R) := by
  refine ⟨fun pinsZ sZ τ G Q IZ h => ?_⟩
  obtain ⟨hs, hc, Ec, R, hW, hR, ht⟩ := h
  have nm := (pe_var (X := (cxOf CXg X.prog X.w X.K X.mg X.base Ng qg sg g cdg X.A X.stack s H Eg).tr pn xe) (pos := p1) (i := i) hN hv hd hcd).run pinsZ sZ τ G (fun v H1 => v = .ref f ∧ H1 = G) IZ ⟨.ref f, hs, rfl, rfl⟩
  refine wpAny_Call_Name_kw (thn nm fun u s1 hu => ?_)
  obtain ⟨v, H1, I1, r1, ev, eH⟩ := hu
  subst ev
  rw [eH] at I1
  obtain rfl : u = Value.ref f := r1
  have un : Un (frs X.stack) [] H G s.heap s1.heap := I1.base
  have of1 := un.keep f _ hf hfn hfr (fun z => nomatch (show f ∈ ([] : List Addr) from z))
  refine PySem.W.callWith_F0 ⟨_, _, _, _, of1⟩ ?_
  obtain ⟨⟨oc, vs, t, hoc, hdc, hvc⟩, _, _⟩ := I1.hok c' _ hc
  have rc : codeAny (model X.prog X.w) (X.A.deeper (envOfC qg sg s.heap.objs.size g cdg)) (.call (.ref f) ⟨[], []⟩)
      (CR (L2.CX X.prog X.w) (envOfC qg sg s.heap.objs.size g cdg :: X.stack) X.prog X.w G s1 Q Ec) s1 := by
    refine PySem.W.kla_callFunE hr.depth of1 rfl L.co L.gen rfl ⟨c', oc, vs, t, rfl, hoc, hdc, hvc⟩ ?_
    rw [hbind]
    refine wpAny_pure (wpAny_newFunctionEnv (fun y hy => (L.own y hy).2) (fun y hy => absurd hy (by simp)) (fun h₁ hns hsb => ?_) L.kind)
    refine ⟨I1.nolimit.fresh _ hsb, ?_⟩
    show codeAny _ _ (.expr body (lamEnv X scope s1.heap.objs.size f c')) _ _
    have kp : ∀ b o, s1.heap.get? b = some o → h₁.get? b = some o := by
      intro b o e
      exact hsb.extBut b o (Nat.ne_of_lt (Heap.lt_size e)) (Heap.get?_push_of_some _ e)
    have J : Inv (lamCx X (X.A.deeper (envOfC qg sg s.heap.objs.size g cdg)) (envOfC qg sg s.heap.objs.size g cdg :: X.stack) s1 G Ec scope f c') [] σ G
        { s1 with heap := h₁, toks := s1.toks + ([] : List (Str × Value)).length } := lam_start2 I L I1.env0 hr.hd un hns kp
    refine PySem.W.kla_codeExpr (wpAny_mono ((hbody Ec _ _ s1 G (hr.deeper _)).run [] _ _ G R J ht) (fun v s' hq => ?_) fun e s' hq => hq)
    obtain ⟨w', H', J', rv, q⟩ := hq
    exact ⟨w', H', J'.os, J'.bare, J'.base, J'.hok, rv, hR _ _ q⟩
  refine wpAny_call (codeAny_mono rc fun r s' hq => ?_)
  cases r with
  | error e => exact tk e s' (XE.of_call I1 (fun cls d G' hE => hW cls d G' hE) hq)
  | ok fl =>
    cases fl with
    | ret u => exact I1.after hq
    | next => exact False.elim hq
    | brk => exact False.elim hq
    | cont => exact False.elim hq
end
/-- the def with its lambda in slot 0; TT: what it makes of the lambda's reading (tl E H Q: E what is wished of an error) -/
def Asks (X : Cx) (Ng : List Str) (x : Str) (sg : Scope) (g : Addr) (cdg : Value) (bg : List Stmt) (a : Str) (q : Str) (TT : (XK → Hp → VK → Prop) → Hp → VK → Prop) : Prop :=
  ∀ (f c' : Addr) (s : Shared) (H : Hp) (Q : VK) (tl : XK → Hp → VK → Prop),
    (∀ (W : WX) (pn : List (Addr × Obj)) (xe : Value → Shared → Prop) (p1 p2 : Pos), Takes ((cxOf C8.CX0 X.prog X.w X.K X.mg X.base Ng x sg g cdg X.A X.stack s H C8.E0).tr pn xe) W →
      PE ((cxOf C8.CX0 X.prog X.w X.K X.mg X.base Ng x sg g cdg X.A X.stack s H C8.E0).tr pn xe) (.Call (.Name a p1) [] [] p2) (fun τ G Q => τ[0]? = some (some (.ref f)) ∧ G c' = some (CodeO c' q) ∧ ∃ (Ec : XK) (R : VK), (∀ cls d G', Ec cls d G' → W cls d τ G') ∧ (∀ v G', R v G' → Q v G') ∧ tl Ec G R)) →
    H c' = some (CodeO c' q) → TT tl H Q →
    ∃ t, PSs (cxOf C8.CX0 X.prog X.w X.K X.mg X.base Ng x sg g cdg X.A X.stack s H C8.E0).nox bg t ∧ t { nx := fun _ H' => Q .non H', rt := Q } (L2.start Ng [.ref f]) H
section
variable {X : Cx}
/-- x(lambda: body) -/
theorem pe_asks {T : List (Addr × Str)} {TT : (XK → Hp → VK → Prop) → Hp → VK → Prop} {x a : Str} {g c P : Addr} {k : Nat} {pg : Arguments} {bg : List Stmt} {sg : Scope} {dV kV doc pm cdv ct oc : Value} {an od : Option Addr} {osl : Array (Option Value)} {Ng : List Str}
    {params : Arguments} {body : Expr} {scope : Scope} {t : XK → TE} {p lpos pos : Pos} (hg : Gl X x) (hm : X.mg x = some (.ref g)) (hk : PySem.W.keepIn X.K (.ref g) = true)
    (lk : X.K.lookup g = some ⟨oc, od, .func (PySem.W.fnOf x x pg bg sg dV kV doc pm an cdv ct), osl⟩) (hcg : PySem.W.codeIn X.K cdv x = true) (hb : L2.Binds X.K (PySem.W.fnOf x x pg bg sg dV kV doc pm an cdv ct) [a] []) (Sg : FnScope Ng [a] sg) (hNg : Ng[0]? = some a) (hva : Vis sg a)
    (hG : Asks X Ng x sg g cdv bg a (X.env.qual ++ "<lambda>") TT)
    (TB : TabB X.base X.mg c P) (hcode : X.env.code = .ref c) (hmT : (P, X.env.qual ++ "<lambda>") ∈ T) (hu : ∀ p ∈ T, p.1 = P → p.2 = X.env.qual ++ "<lambda>") (hr : Room (k + 2) X.A) (L : LamS X.env.scope scope) (hdef : defaultsOf params X.env = ([], []))
    (hbind : ∀ (q : Str) (cl : List (Str × Addr)) (pm cv ctv : Value), bindArgs (PySem.W.kla_fn "<lambda>" q params body scope cl pm cv ctv) ⟨[], []⟩ = pure [])
    (hbody : ∀ (E : XK) (A : Around) (outer : List Env) (s : Shared) (H : Hp) (f c' : Addr), Room k (A.deeper (lamEnv X scope s.heap.objs.size f c')) → PE (lamCx X A outer s H E scope f c') body (t E))
    (hdb : (x == ("__debug__" : Str)) = false := by decide) (hd : (a == ("__debug__" : Str)) = false := by decide) (hcd : (a == ("__classdict__" : Str)) = false := by decide) :
    PE X (.Call (.Name x p) [.Lambda params body scope lpos] [] pos) (tLam T TT t) := by
  refine ⟨fun pins s σ H Q I ⟨hT, h⟩ => ?_⟩
  refine wpAny_Call_Name_kw (ld_glob I hg hm ?_ hdb)
  refine PySem.W.callWith_K (h₀ := X.base) I.ok.mod.kin hk ?_ (by rfl) (by rfl)
  show wpAny _ _ (spliced ((false, eval (.Lambda params body scope lpos) X.env) :: backTo pos (starEach [] X.env))) _ _ s
  have made := fun (Q : Value → Shared → Prop) (E : Value → Shared → Prop) => lam_make2 (Q := Q) (E := E) (params := params) (body := body) (pos := lpos) I TB hcode hmT hu hT hdef (L.has I.ok)
  refine Calls.spliced_cons (made _ _ ?_)
  intro f c' pm' ctv H1 s' I1 eN T1 hf hfn hfr hco
  refine Calls.spliced_nil ⟨I1.kIn, ?_⟩
  have rc : codeAny (model X.prog X.w) X.A (.call (.ref g) ⟨[.ref f], []⟩) (CR C8.CX0 X.stack X.prog X.w H1 s' Q C8.E0) s' := by
    refine run_ofS (N := Ng) (ps := [a]) (us := [.ref f]) (vs := [.ref f]) lk hcg Sg hr I1.env0 (hb s' [.ref f] I1.kIn rfl) (.cons rfl .nil) rfl fun hr' => ?_
    have act := fun (W : WX) (pn : List (Addr × Obj)) (xe : Value → Shared → Prop) (p1 p2 : Pos) (tk : Takes ((cxOf C8.CX0 X.prog X.w X.K X.mg X.base Ng x sg g cdv X.A X.stack s' H1 C8.E0).tr pn xe) W) =>
      pe_ask (i := 0) (p1 := p1) (p2 := p2) (tb := t) I1 L hf hfn hfr (hbind _ _ _ _ _) tk hr' (fun E A outer s H hr2 => hbody E A outer s H f c' hr2) hNg hva hd hcd
    obtain ⟨t', ht', hq'⟩ := hG f c' s' H1 Q (fun E H' Q' => t E σ H' Q') act hco (h H1 eN T1)
    exact ⟨t', ht'.nox, hq'⟩
  refine wpAny_call (codeAny_mono rc fun r s2 hq => ?_)
  cases r with
  | error e => exact False.elim (show False from hq)
  | ok fl =>
    cases fl with
    | ret u => exact I1.after hq
    | next => exact False.elim hq
    | brk => exact False.elim hq
    | cont => exact False.elim hq
end
/-- e.f of the error that a suite holds, whatever its class -/
theorem pe_xfA {X : Cx} {a : Addr} {oe : Obj} {cls : Value} {d : Option Addr} {pn : List (Addr × Obj)} {e : Expr} {te : TE} {pos : Pos} {n : Str} (hz : Zc cls d oe) (hf : ∃ vs, oe.data = .fields vs) (he : PE (X.suite a ((a, oe) :: pn)) e te)
    (hb : attributeBase e n X.env (eval e X.env) = eval e X.env := by rfl) :
    PE (X.suite a ((a, oe) :: pn)) (.Attribute e n pos) (fun σ H Q => ∃ C, XfC X.K C ∧ PySem.W.findIn X.K (.ref C) n = some none ∧ tXf a cls d C n te σ H Q) :=
  ⟨fun pins s σ H Q I ⟨C, T, hno, h⟩ => (pe_xf T hno hz hf he hb).run pins s σ H Q I h⟩
end Rt

namespace Rt
open PySem PySem.Spec PyProof.Rows L2 LamX
/-- a def of the text that may let an error out -/
structure DefX (P : Program) (w : World) (K : PySem.W.Frag) (mg : Str → Option Value) (base : Heap) (x : Str) (k : Nat) (sp : Sp) : Prop where
  ex : ∃ (f : Addr) (fd : FuncData) (ps : List Str), mg x = some (.ref f) ∧ FnOk P w K mg base (L2.CX P w) k f fd ps sp ∧ PySem.W.keepIn K (.ref f) = true ∧ Binds K fd ps []
section
variable {X : Cx} {x : Str} {p pos : Pos} {e : Expr} {es : List Expr} {t : TA} {k : Nat} {sp : Sp} {W : WX}
theorem pe_dx (D : DefX X.prog X.w X.K X.mg X.base x k sp) (hr : Room k X.A) (hg : Gl X x) (tk : Takes X W) (ha : PA X (e :: es) t) (hdb : (x == ("__debug__" : Str)) = false := by decide)
    (he : starEach (e :: es) X.env = (false, eval e X.env) :: starEach es X.env := by rfl) (hpl : (backTo pos (starEach es X.env)).any (·.1) = false := by rfl) :
    PE X (.Call (.Name x p) (e :: es) [] pos) (tCallS sp (WE W) t) := by
  obtain ⟨f, fd, ps, h1, h2, h3, h4⟩ := D.ex
  exact pe_callS h2 hr hg h1 h3 h4 (fun σ => passAt tk σ) ha hdb he hpl
end
section
variable {P : Program} {w : World} {K : PySem.W.Frag} {mg : Str → Option Value} {base : Heap}
/-- a def whose code object is known -/
theorem okC {x qual : Str} {st : Stmt} {f c : Addr} {fd : FuncData} {N ps : List Str} {k : Nat} {sp : Sp} (F : Fun K x qual st f fd) (hcode : fd.code = .ref c) (S : FnScope N ps (defScope st)) (len : ∀ vs H Q E, sp vs H Q E → vs.length = ps.length)
    (hbody : ∀ (A : Around) (outer : List Env) (s : Shared) (H : Hp) (vs : List V) (Q : VK) (E : XK), Room k (A.deeper (envOfC qual (defScope st) s.heap.objs.size f (.ref c))) → sp vs H Q E →
      ∃ t, PSs (cxOf CX0 P w K mg base N qual (defScope st) f (.ref c) A outer s H E).nox (defBody st) t ∧ t { nx := fun _ H' => Q .non H', rt := Q } (L2.start N vs) H) : FnOk P w K mg base CX0 (k + 1) f fd ps sp := by
  obtain ⟨oc, od, kV, doc, pm, an, cdv, ct, osl, rfl, lk, hcd⟩ := F.ex
  have e : cdv = .ref c := hcode
  subst e
  refine fn_of lk hcd S len fun A outer s H vs Q E hr hsp => ?_
  obtain ⟨t, h, q⟩ := hbody A outer s H vs Q E hr hsp
  exact ⟨t, h.nox, q⟩
end
/-! ### tables of code objects -/
theorem tabs_but {T : List (Addr × Str)} {H H' : Hp} {d : Addr} {xs : List V} (t : Tabs T H) (hd : H d = some (.lst xs)) (k : ∀ b o, H b = some o → b ≠ d → H' b = some o) : Tabs T H' := by
  intro p hp
  obtain ⟨ps, h1, h2, h3⟩ := t p hp
  refine ⟨ps, k _ _ h1 (fun z => ?_), h2, fun pos cv hc => ?_⟩
  · rw [z, hd] at h1
    cases h1
  · obtain ⟨c, e1, e2⟩ := h3 pos cv hc
    refine ⟨c, e1, k _ _ e2 fun z => ?_⟩
    rw [z, hd] at e2
    unfold CodeO at e2
    cases e2
/-- nothing settled is a table -/
def NoTab (H0 : Hp) : Prop := ∀ b ps, H0 b ≠ some (.tbl ps)
theorem NoTab.upd {H0 : Hp} {p : Addr} {o : HO} (h : NoTab H0) (n : ∀ ps, o ≠ .tbl ps) : NoTab (upd H0 p o) := fun b ps z => by
  by_cases e : b = p
  · rw [e, upd_same] at z
    exact n ps (Option.some.inj z)
  · rw [upd_ne e] at z
    exact h b ps z
theorem Ex.extN {H0 H H' : Hp} (e : Ex H0 H) (n : NoTab H0) (x : ExtN H H') : Ex H0 H' := fun b o h => x b o (e b o h) fun ps z => n b ps (z ▸ h)
theorem Dr.extN {H0 H H' : Hp} {d : Addr} (x : Dr H0 H d) (e : ExtN H H') : Dr H0 H' d := by
  obtain ⟨⟨a, ns, i, j, k, l, h1, h2⟩, n⟩ := x
  exact ⟨⟨a, ns, i, j, k, l, e _ _ h1 (fun ps z => nomatch z), h2⟩, n⟩
/-- the least that a drawing needs -/
theorem Dr.least {H0 H : Hp} {d : Addr} (x : Dr H0 H d) (e : Ex H0 H) : ∃ A0 : Hp, Ex A0 H ∧ Dr A0 H d ∧ NoTab A0 := by
  obtain ⟨⟨a, ns, i, j, k, l, h1, h2, h3⟩, n⟩ := x
  refine ⟨upd (fun _ => none) a (.lst (ns.map V.int)), fun b o h => ?_, ⟨⟨a, ns, i, j, k, l, h1, upd_same, h3⟩, ?_⟩, NoTab.upd (fun b ps z => nomatch z) (fun ps z => nomatch z)⟩
  · by_cases z : b = a
    · rw [z, upd_same] at h
      cases h
      rw [z]
      exact e _ _ h2
    · rw [upd_ne z] at h
      cases h
  · have nda : d ≠ a := fun z => by
      rw [z, h2] at n
      cases n
    rw [upd_ne nda]
theorem Dr.lst {H0 H : Hp} {d : Addr} (x : Dr H0 H d) : ∃ xs, H d = some (.lst xs) := by
  obtain ⟨⟨a, ns, i, j, k, l, h1, _⟩, _⟩ := x
  exact ⟨_, h1⟩
/-- across a drawing step -/
theorem tabs_go {T : List (Addr × Str)} {H0 H H0' H' : Hp} {d : Addr} (t : Tabs T H) (x : Dr H0 H d) (g : Go (· = d) H0 H H0' H') : Tabs T H' := by
  obtain ⟨xs, hd⟩ := x.lst
  exact tabs_but t hd fun b o h n => g.keep b o h n
theorem tabs_new {T : List (Addr × Str)} {H : Hp} {p : Addr} {o : HO} (t : Tabs T H) (h : H p = none) : Tabs T (upd H p o) := t.ext fun b u e => by
  rw [upd_ne (ne_of_none e h)]
  exact e
end Rt

namespace Rt
open PySem PySem.Spec PyProof.Rows L2 LamX
/-- all that is read off the written part of an error's class -/
structure ErrF (K : PySem.W.Frag) (x z word : Str) (C CT CM fI : Addr) (tape : Bool) : Prop where
  g : PySem.W.nsIn K mainGlobals x = some (some (.ref C))
  gT : PySem.W.nsIn K mainGlobals "TapeError" = some (some (.ref CT))
  gM : PySem.W.nsIn K mainGlobals "MissingError" = some (some (.ref CM))
  cls : ∃ nm q N bs bm sn sub ab col dd k0 k1 k2 k3 k5, K.lookup C = some (excClassObj nm q C N bs bm true sn sub ab col dd k0 k1 k2 k3 k5 "ValueError.__new__") ∧ PySem.HandSPX.refsVE bm = true
  nm : ∃ o tk, K.lookup C = some o ∧ (o.slots[2]?).join = some (.str z tk)
  sa : PySem.W.findIn K (.ref C) "__setattr__" = some (some (.builtin "object.__setattr__"))
  exC : PySem.W.subIn K (.ref C) (.type "BaseException") = some true
  tyC : PySem.W.typeIn K (.ref C) = some (.type "type")
  kC : PySem.W.keepIn K (.ref C) = true
  ga : PySem.W.findIn K (.ref C) "__getattribute__" = some (some (.builtin "BaseException.__getattribute__"))
  gg : PySem.W.findIn K (.ref C) "__getattr__" = some none
  hd : PySem.W.hasDictIn K C = true
  ca : PySem.W.findIn K (.ref C) "__class__" = some (some (.builtin "object.__class__"))
  cg : PySem.W.specialIn K (.builtin "object.__class__") "__get__" = some (some (.builtin "getset_descriptor.__get__"))
  ct : PySem.W.takesIn K (.builtin "object.__class__") = some true
  mo : PySem.W.mroIn K C (.type "object") = some true
  rd : PySem.W.readsIn K C (.type "type") = true
  fc : PySem.W.findCls K (.ref C) (.type "type") "__name__" = some (.get (.builtin "getset_descriptor.__get__") (.builtin "type.__name__") (.ref C) (.type "type"))
  nc : PySem.W.findIn K (.ref C) "called" = some none
  iC : PySem.W.findIn K (.ref C) "__init__" = some (some (.ref fI))
  tI : PySem.W.typeIn K (.ref fI) = some (.type "function")
  t1 : PySem.W.subIn K (.ref CT) (.type "BaseException") = some true
  t2 : PySem.W.hasDictIn K CT = true
  t3 : PySem.W.typeIn K (.ref CT) = some (.type "type")
  t4 : PySem.W.subIn K (.ref C) (.ref CT) = some tape
  u1 : PySem.W.subIn K (.ref CM) (.type "BaseException") = some true
  u2 : PySem.W.hasDictIn K CM = true
  u3 : PySem.W.typeIn K (.ref CM) = some (.type "type")
  u4 : PySem.W.subIn K (.ref C) (.ref CM) = some (!tape)
  low : Txt.lower z = word
  sz : z.length ≤ 1000
theorem errF_of {K : PySem.W.Frag} {x z word : Str} {C CT CM fI : Addr} {tape : Bool} {nm q : Str} {N : Addr} {bs bm : List Value} {sn : List Str} {sub : List Value} {ab : Bool} {col : Option Bool} {dd : Option Addr} {k0 k1 k2 k3 k5 : Option Value} {o : Obj} {tk : Tok}
    (g : PySem.W.nsIn K mainGlobals x = some (some (.ref C)))
    (gT : PySem.W.nsIn K mainGlobals "TapeError" = some (some (.ref CT)))
    (gM : PySem.W.nsIn K mainGlobals "MissingError" = some (some (.ref CM)))
    (cls1 : K.lookup C = some (excClassObj nm q C N bs bm true sn sub ab col dd k0 k1 k2 k3 k5 "ValueError.__new__")) (cls2 : PySem.HandSPX.refsVE bm = true)
    (nm1 : K.lookup C = some o) (nm2 : (o.slots[2]?).join = some (.str z tk))
    (sa : PySem.W.findIn K (.ref C) "__setattr__" = some (some (.builtin "object.__setattr__")))
    (exC : PySem.W.subIn K (.ref C) (.type "BaseException") = some true)
    (tyC : PySem.W.typeIn K (.ref C) = some (.type "type"))
    (kC : PySem.W.keepIn K (.ref C) = true)
    (ga : PySem.W.findIn K (.ref C) "__getattribute__" = some (some (.builtin "BaseException.__getattribute__")))
    (gg : PySem.W.findIn K (.ref C) "__getattr__" = some none)
    (hd : PySem.W.hasDictIn K C = true)
    (ca : PySem.W.findIn K (.ref C) "__class__" = some (some (.builtin "object.__class__")))
    (cg : PySem.W.specialIn K (.builtin "object.__class__") "__get__" = some (some (.builtin "getset_descriptor.__get__")))
    (ct : PySem.W.takesIn K (.builtin "object.__class__") = some true)
    (mo : PySem.W.mroIn K C (.type "object") = some true)
    (rd : PySem.W.readsIn K C (.type "type") = true)
    (fc : PySem.W.findCls K (.ref C) (.type "type") "__name__" = some (.get (.builtin "getset_descriptor.__get__") (.builtin "type.__name__") (.ref C) (.type "type")))
    (nc : PySem.W.findIn K (.ref C) "called" = some none)
    (iC : PySem.W.findIn K (.ref C) "__init__" = some (some (.ref fI)))
    (tI : PySem.W.typeIn K (.ref fI) = some (.type "function"))
    (t1 : PySem.W.subIn K (.ref CT) (.type "BaseException") = some true)
    (t2 : PySem.W.hasDictIn K CT = true)
    (t3 : PySem.W.typeIn K (.ref CT) = some (.type "type"))
    (t4 : PySem.W.subIn K (.ref C) (.ref CT) = some tape)
    (u1 : PySem.W.subIn K (.ref CM) (.type "BaseException") = some true)
    (u2 : PySem.W.hasDictIn K CM = true)
    (u3 : PySem.W.typeIn K (.ref CM) = some (.type "type"))
    (u4 : PySem.W.subIn K (.ref C) (.ref CM) = some (!tape))
    (low : Txt.lower z = word)
    (sz : z.length ≤ 1000) : ErrF K x z word C CT CM fI tape := ⟨g, gT, gM, ⟨nm, q, N, bs, bm, sn, sub, ab, col, dd, k0, k1, k2, k3, k5, cls1, cls2⟩, ⟨o, tk, nm1, nm2⟩, sa, exC, tyC, kC, ga, gg, hd, ca, cg, ct, mo, rd, fc, nc, iC, tI, t1, t2, t3, t4, u1, u2, u3, u4, low, sz⟩
section
variable {P : Program} {w : World} {K : PySem.W.Frag} {mg : Str → Option Value} {base h : Heap} {x z word : Str} {C CT CM fI : Addr} {tape : Bool} {k : Nat} {fd : FuncData}
theorem ErrF.xf (F : ErrF K x z word C CT CM fI tape) : XfC K C := ⟨F.ga, F.gg, F.exC, F.hd⟩
theorem ErrF.err (F : ErrF K x z word C CT CM fI tape) (X : K.In h) (G : h.Ns mainGlobals mg) : Err K mg x C z word where
  g := PySem.W.mg_of X G F.g
  oex := ⟨F.cls, F.sa, F.exC, F.tyC, F.kC⟩
  cls := ⟨F.ga, F.gg, F.exC, F.hd, F.ca, F.cg, F.ct, F.mo⟩
  nmd := ⟨F.rd, F.fc, F.tyC, F.nm⟩
  nc := F.nc
  low := F.low
  sz := F.sz
theorem err_mk (F : ErrF K x z word C CT CM fI tape) (X : K.In h) (G : h.Ns mainGlobals mg) (ok : FnOk P w K mg base CX0 k fI fd ["self", "why"] (spInit K)) (b : Binds K fd ["self", "why"] []) : ErrK P w K mg base k x word tape :=
  ⟨C, CT, CM, fI, z, fd, F.err X G, F.iC, F.tI, ok, b, F.xf, PySem.W.mg_of X G F.gT, PySem.W.mg_of X G F.gM, PySem.W.exm_ref F.t1 F.t2 F.t3 F.t4, fun e => PySem.W.exm_ref F.u1 F.u2 F.u3 (by rw [F.u4, e]; rfl)⟩
end
/-- the end of a law whose def (and whose defs named in xs) hold lambdas -/
theorem walkT {l : PySem.W.OpenLaw} {n k : Nat} {q : Program} {loose : List Str} {XP : (Str → Option Value) → Heap → Prop} {YP : World → Heap → Prop} {d : DefRec} {K : Params → PySem.W.Frag} {CX : World → CXT} {x : Str}
    (hn : l.most = some n) (hn2 : n ≤ sizeLine) (hdf : d.params.defaults = []) (hr : Room k callerA) (hY : ∀ (w : World) (h : Heap), YP w h → (K w.params).In h)
    (F : ∀ (w : World) (mg : Str → Option Value) (fa : Addr) (h : Heap), (K w.params).In h → h.Ns mainGlobals mg → mg d.name = some (.ref fa) →
      (∀ (y : Str) (e : DefRec) (c t : Addr), (recsOf q).find? (fun r => r.name == y) = some e → PySem.W.tabIn (K w.params) y = some (c, t) → PySem.W.CodeHd h c t ∧ h.get? t = some { cls := .none, data := .fields #[] }) → LawAtS l w (K w.params) (CX w) k n x mg fa h)
    (hCX : ∀ (w : World) (H : Hp) (s : Shared) (e : Value) (s' : Shared), CX w [] H s (fun _ _ _ => False) e s' → False) :
    PySem.W.WalkO q loose XP YP l.row.toRowW d [] (fun f vs => PySem.call f vs) := by
  refine Att.attach_callB hn hdf fun w s₀ s₁ mg mb fa o pm cd doc a vs ns G Y ho hd hcd hmg hobj hints hlen hbits hg => ?_
  have KX := hY w _ Y
  obtain ⟨fd, cs, sp, hT, nT, C, hb, hsp, hF⟩ := F w mg fa _ KX G.T.g hmg fun y e c t h1 h2 => PySem.W.tab_of G.T KX h1 h2
  exact law_callTs KX G.T.g G.T.b G.T.builtins G.T.nolimit hg hT nT C G.T.bmain hobj hints (Nat.le_trans hlen hn2) hr hF hb (fun H hH hS => hsp H a ns hlen hbits hH hS) fun H e s' => hCX w H s₁ e s'
end Rt

namespace Rt
open PySem PySem.Spec PyProof.Rows L2
def topS (i : Nat) : Stmt := PySem.Challenge.pw_reedtapes_k21_shares_in_lowest_terms.main.body.getD i (.Pass ⟨0, 0, 0, 0⟩)
section
variable {P : Program} {w : World} {K : PySem.W.Frag} {mg : Str → Option Value} {base : Heap}
abbrev s_begin : Stmt := topS 4
theorem sc_begin : FnScope ["_law_script"] ["_law_script"] (defScope s_begin) := ⟨rfl, rfl, rfl, by decide +kernel, rfl, by decide +kernel, by decide +kernel⟩
def spBegin (K : PySem.W.Frag) : Sp := fun vs H Q _ => ∃ (a : Addr) (ns : List Int) (H0 : Hp), vs = [.ref a] ∧ SqL K H a (ns.map V.int) ∧ Ex H0 H ∧
  ∀ (d : Addr) (H0' H' : Hp), Go (fun _ => False) H0 H H0' H' → Dr H0' H' d → H d = none → Q (.ref d) H'
theorem ok_begin {f : Addr} {fd : FuncData} (F : Fun K "_law_begin" "_law_begin" s_begin f fd) (m_list : mg "list" = none) : FnOk P w K mg base CX0 1 f fd ["_law_script"] (spBegin K) := by
  refine F.ok sc_begin (fun vs H Q E h => ?_) (fun cdv A outer s H vs Q E hr h => ?_)
  · obtain ⟨a, ns, H0, rfl, _⟩ := h
    rfl
  · obtain ⟨a, ns, H0, rfl, hS, e0, q⟩ := h
    refine ⟨_, (pss_one (ps_ret (pe_lst (pa_cons (pe_callTy call_list_of (by rfl) m_list bt_list (pa_cons (pe_slice sl_list (pv 0) po_none (po_some pe_int)) pa_nil)) (pa_cons pe_int (pa_cons pe_int (pa_cons pe_int (pa_cons pe_int pa_nil)))))))), ?_⟩
    obtain ⟨ms, hms⟩ : ∃ ms : List Int, cutV (ns.map V.int) none (some 63) = ms.map V.int := ⟨_, by unfold cutV; rw [← List.map_drop, ← List.map_take]⟩
    refine ⟨.ref a, rfl, 63, rfl, a, _, rfl, hS, fun c hc => ?_⟩
    refine ⟨c, _, rfl, .inl (SqL.of upd_same), fun l hl => ?_⟩
    rw [hms] at hl ⊢
    refine ⟨(by show 5 ≤ sizeLine; decide), fun d hd => ?_⟩
    have g0 := Go.refl (m := fun _ => False) e0
    have g1 := g0.lay (.lst (ms.map V.int)) hc
    have g2 := g1.put (.lst (ms.map V.int)) hl
    have g3 := g2.lay (.lst [.ref l, .int 0, .int 0, .int 1, .int 0]) hd
    have nH : H d = none := g2.fresh hd
    exact q d _ _ g3 ⟨⟨l, ms, 0, 0, 1, 0, upd_same, upd_same, by decide, by decide, by decide, by decide⟩, g2.fresh0 hd⟩ nH
abbrev s_pick : Stmt := topS 5
theorem sc_pick : FnScope ["_law_draw", "_law_many", "_law_cell", "_law_got"] ["_law_draw", "_law_many"] (defScope s_pick) := ⟨rfl, rfl, rfl, by decide +kernel, rfl, by decide +kernel, by decide +kernel⟩
def spPick : Sp := fun vs H Q _ => ∃ (d : Addr) (m : Int) (H0 : Hp), vs = [.ref d, .int m] ∧ 0 < m ∧ m ≤ 1000000000 ∧ Ex H0 H ∧ Dr H0 H d ∧
  ∀ (r : Int) (H' : Hp), 0 ≤ r → r < m → Go (· = d) H0 H H0 H' → Dr H0 H' d → Q (.int r) H'
theorem ok_pick {f : Addr} {fd : FuncData} (F : Fun K "_law_pick" "_law_pick" s_pick f fd) (m_len : mg "len" = none) : FnOk P w K mg base CX0 1 f fd ["_law_draw", "_law_many"] spPick := by
  refine F.ok sc_pick (fun vs H Q E h => ?_) (fun cdv A outer s H vs Q E hr h => ?_)
  · obtain ⟨d, m, H0, rfl, _⟩ := h
    rfl
  · obtain ⟨d, m, H0, rfl, m0, m1, e0, ⟨⟨a, ns, i, j, k, l, hd, ha, hi, hj, hk0, hk⟩, out⟩, q⟩ := h
    refine ⟨_, (C8.pss_cut (ps_if (PW.pt (pw_and (pt_cmpR op_lt (pe_ix ix_list (pv 0) pe_int (fun _ _ => rfl)) (pv 1) (nomark _)) (pw_and1 (pt_cmpR op_lt (pe_ix ix_list (pv 0) pe_int (fun _ _ => rfl)) (pe_callB call_len_seq (by rfl) m_len PySem.boot_len (pa_cons (pe_ix ix_list (pv 0) pe_int (fun _ _ => rfl)) pa_nil)) (nomark _))))) (pss_cons (ps_set (i := 2) sc_pick.nd rfl (Or.inl rfl) (pe_ix ix_list (pe_ix ix_list (pv 0) pe_int (fun _ _ => rfl)) (pe_ix ix_list (pv 0) pe_int (fun _ _ => rfl)) (fun _ _ => rfl)))
      (pss_cons (ps_asg (pe_op op_add (pe_ix ix_list (pv 0) pe_int (fun _ _ => rfl)) pe_int) (pg_sub (pv 0) pe_int set_list))
      (pss_cons (ps_asg pe_int (pg_sub (pv 0) pe_int set_list))
      (pss_one (ps_if (pt_cmpR op_ge (pv 2) (pe_op op_pow pe_int pe_int) (nomark _)) (pss_one (ps_asg (pv 2) (pg_sub (pv 0) pe_int set_list))) (pss_one (ps_asg (pe_op op_modN (pe_op op_add (pe_ix ix_list (pv 0) pe_int (fun _ _ => rfl)) (pv 2)) pe_int) (pg_sub (pv 0) pe_int set_list)))))))) pss_nil)
      (pss_cons (ps_if (pt_cmpR op_ge (pe_ix ix_list (pv 0) pe_int (fun _ _ => rfl)) (pv 1) (nomark _)) (pss_cons (ps_set (i := 3) sc_pick.nd rfl (Or.inl rfl) (pe_op op_modN (pe_ix ix_list (pv 0) pe_int (fun _ _ => rfl)) (pv 1)))
      (pss_cons (ps_asg (pe_op op_fdivN (pe_ix ix_list (pv 0) pe_int (fun _ _ => rfl)) (pv 1)) (pg_sub (pv 0) pe_int set_list))
      (pss_one (ps_ret (pv 3))))) pss_nil)
      (pss_cons (ps_asg (pe_op op_add (pe_ix ix_list (pv 0) pe_int (fun _ _ => rfl)) pe_int) (pg_sub (pv 0) pe_int set_list))
      (pss_cons (ps_asg (pe_op op_modN (pe_op op_add (pe_op op_add (pe_op op_pow (pe_ix ix_list (pv 0) pe_int (fun _ _ => rfl)) pe_int) (pe_op op_mul pe_int (pe_ix ix_list (pv 0) pe_int (fun _ _ => rfl)))) pe_int) pe_int) (pg_sub (pv 0) pe_int set_list))
      (pss_one (ps_ret (pe_op op_modN (pe_op op_fdivN (pe_ix ix_list (pv 0) pe_int (fun _ _ => rfl)) pe_int) (pv 1)))))))), ?_⟩
    have hA : H a = some (.lst (ns.map V.int)) := e0 _ _ ha
    have nda : a ≠ d := fun z => by rw [z, out] at ha; cases ha
    refine ⟨fun σ H' => ∃ (i j k : Int) (v : Option V), σ = [some (.ref d), some (.int m), v, none] ∧ H' d = some (.lst [.ref a, .int i, .int j, .int k, .int l]) ∧ 0 ≤ i ∧ 0 ≤ j ∧ 0 ≤ k ∧ k < 2000000000 ∧ Go (· = d) H0 H H0 H', ?_, ?_⟩
    · -- if draw[2] < many and draw[1] < len(draw[0])
      refine ⟨_, rfl, d, _, 2, _, rfl, rfl, SqL.of hd, at_of (j := 2) rfl rfl, _, rfl, _, _, rfl, rfl, _, rfl, ifD (fun c => ?_) (fun c => ?_)⟩
      · refine ⟨_, rfl, d, _, 1, _, rfl, rfl, SqL.of hd, at_of (j := 1) rfl rfl, _, rfl, d, _, 0, _, rfl, rfl, SqL.of hd, at_of (j := 0) rfl rfl, a, _, rfl, .inl (SqL.of hA), _, _, rfl, rfl, _, rfl, ?_⟩
        rw [List.length_map]
        refine ifD (fun c2 => ?_) (fun c2 => ?_)
        · obtain ⟨n, rfl⟩ : ∃ n : Nat, i = (n : Int) := ⟨i.toNat, by omega⟩
          have hn : n < ns.length := by omega
          have g0 := Go.refl (m := (· = d)) e0
          -- cell = draw[0][draw[1]]
          refine ⟨_, rfl, d, _, 0, _, rfl, rfl, SqL.of hd, at_of (j := 0) rfl rfl, _, rfl, d, _, 1, _, rfl, rfl, SqL.of hd, at_of (j := 1) rfl rfl, a, _, _, _, rfl, rfl, SqL.of hA, at_of (j := n) rfl (map_int (List.getElem?_eq_getElem hn)), ?_⟩
          -- draw[1] = draw[1] + 1
          refine ⟨_, rfl, d, _, 1, _, rfl, rfl, SqL.of hd, at_of (j := 1) rfl rfl, _, _, rfl, rfl, _, rfl, _, _, _, 1, rfl, rfl, hd, rfl, ?_⟩
          -- draw[2] = 0
          refine ⟨_, rfl, _, _, _, 2, rfl, rfl, upd_same, rfl, ?_⟩
          -- if cell >= 10 ** 18
          refine ⟨_, rfl, _, _, rfl, rfl, ⟨by decide, by decide, by decide⟩, _, _, rfl, rfl, _, rfl, ifD (fun c3 => ?_) (fun c3 => ?_)⟩
          · refine ⟨_, rfl, _, rfl, _, _, _, 2, rfl, rfl, upd_same, rfl, ?_⟩
            have c4 : (10 : Int) ^ (18 : Int).toNat ≤ ns[n] := c3
            exact ⟨_, ns[n], k, _, rfl, upd_same, by omega, Int.le_trans (by decide) c4, hk0, hk, ((g0.turnM _ rfl out).turnM _ rfl out).turnM _ rfl out⟩
          · refine ⟨_, rfl, d, _, 3, _, rfl, rfl, SqL.of upd_same, at_of (j := 3) rfl rfl, _, rfl, _, _, rfl, rfl, _, _, rfl, rfl, (by show (1000000007 : Int) ≠ 0; decide), _, rfl, _, _, _, 3, rfl, rfl, upd_same, rfl, ?_⟩
            have f0 := Int.fmod_nonneg_of_pos (k + ns[n]) (show (0 : Int) < 1000000007 by decide)
            have f1 := Int.fmod_lt_of_pos (k + ns[n]) (show (0 : Int) < 1000000007 by decide)
            exact ⟨_, 0, _, _, rfl, upd_same, by omega, by decide, f0, by omega, ((g0.turnM _ rfl out).turnM _ rfl out).turnM _ rfl out⟩
        · exact ⟨i, j, k, none, rfl, hd, hi, hj, hk0, hk, Go.refl e0⟩
      · exact ⟨i, j, k, none, rfl, hd, hi, hj, hk0, hk, Go.refl e0⟩
    · rintro σ' H' ⟨i, j, k, v, rfl, hd, hi, hj, hk0, hk, g⟩
      -- if draw[2] >= many
      refine ⟨_, rfl, d, _, 2, _, rfl, rfl, SqL.of hd, at_of (j := 2) rfl rfl, _, rfl, _, _, rfl, rfl, _, rfl, ifD (fun c => ?_) (fun c => ?_)⟩
      · refine ⟨_, rfl, d, _, 2, _, rfl, rfl, SqL.of hd, at_of (j := 2) rfl rfl, _, rfl, _, _, rfl, rfl, (by omega : m ≠ 0), ?_⟩
        refine ⟨_, rfl, d, _, 2, _, rfl, rfl, SqL.of hd, at_of (j := 2) rfl rfl, _, rfl, _, _, rfl, rfl, ⟨by omega, by omega⟩, _, rfl, _, _, _, 2, rfl, rfl, hd, rfl, ?_⟩
        have f0 := Int.fmod_nonneg_of_pos j m0
        have f1 := Int.fmod_lt_of_pos j m0
        have f2 : 0 ≤ j.fdiv m := Int.fdiv_nonneg hj (by omega)
        exact ⟨_, rfl, q _ _ f0 f1 (g.turnM _ rfl out) ⟨⟨a, ns, i, _, k, l, upd_same, ha, hi, f2, hk0, hk⟩, out⟩⟩
      · refine ⟨_, rfl, d, _, 4, _, rfl, rfl, SqL.of hd, at_of (j := 4) rfl rfl, _, _, rfl, rfl, _, rfl, _, _, _, 4, rfl, rfl, hd, rfl, ?_⟩
        refine ⟨_, rfl, d, _, 3, _, rfl, rfl, SqL.of upd_same, at_of (j := 3) rfl rfl, _, _, rfl, rfl, ⟨by decide, by decide, by omega⟩, _, rfl, d, _, 4, _, rfl, rfl, SqL.of upd_same, at_of (j := 4) rfl rfl, _, _, rfl, rfl, .inl ⟨by decide, by decide⟩, _, _, rfl, rfl, _, _, rfl, rfl, _, _, rfl, rfl, (by show (1000000007 : Int) ≠ 0; decide), _, rfl, _, _, _, 3, rfl, rfl, upd_same, rfl, ?_⟩
        have f0 := Int.fmod_nonneg_of_pos (k ^ Int.toNat 3 + 40503 * (l + 1) + 17) (show (0 : Int) < 1000000007 by decide)
        have f1 := Int.fmod_lt_of_pos (k ^ Int.toNat 3 + 40503 * (l + 1) + 17) (show (0 : Int) < 1000000007 by decide)
        refine ⟨_, rfl, d, _, 3, _, rfl, rfl, SqL.of upd_same, at_of (j := 3) rfl rfl, _, _, rfl, rfl, ⟨by decide, by decide⟩, _, rfl, _, _, rfl, rfl, (by omega : m ≠ 0), ?_⟩
        exact q _ _ (Int.fmod_nonneg_of_pos _ m0) (Int.fmod_lt_of_pos _ m0) ((g.turnM _ rfl out).turnM _ rfl out) ⟨⟨a, ns, i, j, _, _, upd_same, ha, hi, hj, f0, by omega⟩, out⟩
abbrev s_one : Stmt := topS 6
theorem sc_one : FnScope ["_law_draw", "_law_some"] ["_law_draw", "_law_some"] (defScope s_one) := ⟨rfl, rfl, rfl, by decide +kernel, rfl, by decide +kernel, by decide +kernel⟩
def spOne : Sp := fun vs H Q _ => ∃ (d p : Addr) (xs : List V) (H0 : Hp), vs = [.ref d, .ref p] ∧ Ex H0 H ∧ Dr H0 H d ∧ H0 p = some (.lst xs) ∧ 0 < xs.length ∧ xs.length ≤ 1000000000 ∧
  ∀ (i : Nat) (v : V) (H' : Hp), xs[i]? = some v → Go (· = d) H0 H H0 H' → Dr H0 H' d → Q v H'
theorem ok_one {f : Addr} {fd : FuncData} (F : Fun K "_law_one" "_law_one" s_one f fd) (D__law_pick : Def P w K mg base "_law_pick" 1 spPick) (m_len : mg "len" = none) : FnOk P w K mg base CX0 2 f fd ["_law_draw", "_law_some"] spOne := by
  refine F.ok sc_one (fun vs H Q E h => ?_) (fun cdv A outer s H vs Q E hr h => ?_)
  · obtain ⟨d, p, xs, H0, rfl, _⟩ := h
    rfl
  · obtain ⟨d, p, xs, H0, rfl, e0, hD, hp, l0, l1, q⟩ := h
    refine ⟨_, (pss_one (ps_ret (pe_ix ix_list (pv 1) (pe_d D__law_pick (hr.mono (by decide)) rfl (pa_cons (pv 0) (pa_cons (pe_callB call_len_seq (by rfl) m_len PySem.boot_len (pa_cons (pv 1) pa_nil)) pa_nil))) (fun _ _ => rfl)))), ?_⟩
    refine ⟨.ref p, rfl, .ref d, rfl, .ref p, rfl, p, xs, rfl, .inl (SqL.of (e0 _ _ hp)), d, (xs.length : Int), H0, rfl, by omega, by omega, e0, hD, fun r H' r0 r1 g hD' => ?_⟩
    obtain ⟨j, rfl⟩ : ∃ j : Nat, r = (j : Int) := ⟨r.toNat, by omega⟩
    have hj : j < xs.length := by omega
    exact ⟨p, xs, (j : Int), _, rfl, rfl, SqL.of (g.inn _ _ hp), at_of (j := j) rfl (List.getElem?_eq_getElem hj), q j _ _ (List.getElem?_eq_getElem hj) g hD'⟩
abbrev s_far : Stmt := topS 7
theorem sc_far : FnScope ["_law_draw", "_law_number"] ["_law_draw"] (defScope s_far) := ⟨rfl, rfl, rfl, by decide +kernel, rfl, by decide +kernel, by decide +kernel⟩
def spFar : Sp := fun vs H Q _ => ∃ (d : Addr) (H0 : Hp), vs = [.ref d] ∧ Ex H0 H ∧ Dr H0 H d ∧
  ∀ (r : Int) (H0' H' : Hp), r.natAbs < 10 ^ 30 → Go (· = d) H0 H H0' H' → Dr H0' H' d → Q (.int r) H'
theorem ok_far {f : Addr} {fd : FuncData} (F : Fun K "_law_far" "_law_far" s_far f fd) (D__law_pick : Def P w K mg base "_law_pick" 1 spPick) : FnOk P w K mg base CX0 2 f fd ["_law_draw"] spFar := by
  refine F.ok sc_far (fun vs H Q E h => ?_) (fun cdv A outer s H vs Q E hr h => ?_)
  · obtain ⟨d, H0, rfl, _⟩ := h
    rfl
  · obtain ⟨d, H0, rfl, e0, hD, q⟩ := h
    refine ⟨_, (pss_cons (ps_set (i := 1) sc_far.nd rfl (Or.inl rfl) (pe_op op_add (pe_op op_add (pe_op op_pow pe_int pe_int) (pe_d D__law_pick (hr.mono (by decide)) rfl (pa_cons (pv 0) (pa_cons (pe_op op_pow pe_int pe_int) pa_nil)))) (pe_op op_mul (pe_op op_pow pe_int pe_int) (pe_d D__law_pick (hr.mono (by decide)) rfl (pa_cons (pv 0) (pa_cons pe_int pa_nil))))))
      (pss_one (ps_ret (pe_ix ix_tup (pe_tup (pa_cons (pv 1) (pa_cons (pe_op op_sub pe_int (pv 1)) pa_nil))) (pe_d D__law_pick (hr.mono (by decide)) rfl (pa_cons (pv 0) (pa_cons pe_int pa_nil))) (fun _ _ => rfl))))), ?_⟩
    have S := Sd.here e0 hD
    have b1 : (10 : Int) ^ (9 : Int).toNat ≤ 1000000000 := by decide
    refine ⟨_, _, rfl, rfl, ⟨by decide, by decide, by decide⟩, _, rfl, _, _, rfl, rfl, ⟨by decide, by decide, by decide⟩, d, _, H0, rfl, (by show (0 : Int) < 10 ^ (9 : Int).toNat; decide), b1, S.ex, S.dr, fun x H x0 x1 g hD => ?_⟩
    have S := S.call g hD
    have x2 : x < 1000000000 := Int.lt_of_lt_of_le x1 b1
    refine ⟨_, _, rfl, rfl, _, _, rfl, rfl, ⟨by decide, by decide, by decide⟩, _, rfl, d, 2, H0, rfl, by decide, by decide, S.ex, S.dr, fun y H y0 y1 g hD => ?_⟩
    have S := S.call g hD
    refine ⟨_, _, rfl, rfl, .inr ⟨by omega, by omega⟩, _, _, rfl, rfl, ?_⟩
    have ez : ∀ z : Int, z = (10 : Int) ^ (7 : Int).toNat + x + 10 ^ (28 : Int).toNat * y → z.natAbs < 10 ^ 30 ∧ (0 - z).natAbs < 10 ^ 30 := fun z e => by
      have c1 : (10 : Int) ^ (7 : Int).toNat = 10000000 := by decide
      have c2 : (10 : Int) ^ (28 : Int).toNat = 10000000000000000000000000000 := by decide
      rw [c1, c2] at e
      have : (10 : Nat) ^ 30 = 1000000000000000000000000000000 := by decide
      omega
    obtain ⟨z1, z2⟩ := ez _ rfl
    refine ⟨_, rfl, _, rfl, _, _, rfl, rfl, (by show 2 ≤ sizeLine; decide), fun t ht => ?_⟩
    have S := S.put (.tup [.int ((10 : Int) ^ (7 : Int).toNat + x + 10 ^ (28 : Int).toNat * y), .int (0 - ((10 : Int) ^ (7 : Int).toNat + x + 10 ^ (28 : Int).toNat * y))]) ht
    refine ⟨_, rfl, d, 2, _, rfl, by decide, by decide, S.ex, S.dr, fun u H u0 u1 g hD => ?_⟩
    have S := S.call g hD
    have ht1 := S.ex _ _ upd_same
    by_cases c : u = 0
    · subst c
      exact ⟨t, _, _, _, rfl, rfl, SqT.of ht1, at_of (j := 0) rfl rfl, q _ _ _ z1 S.go S.dr⟩
    · obtain rfl : u = 1 := by omega
      exact ⟨t, _, _, _, rfl, rfl, SqT.of ht1, at_of (j := 1) rfl rfl, q _ _ _ z2 S.go S.dr⟩
abbrev s_same : Stmt := topS 10
theorem sc_same : FnScope ["_law_found", "_law_due", "_law_k"] ["_law_found", "_law_due"] (defScope s_same) := ⟨rfl, rfl, rfl, by decide +kernel, rfl, by decide +kernel, by decide +kernel⟩
/-- both stand for the same datum d, at most n deep -/
def spSame (K : PySem.W.Frag) (n : Nat) : Sp := fun vs H Q _ => ∃ (v u : V) (d : PyData) (H0 : Hp), vs = [v, u] ∧ Ex H0 H ∧ Dp K H v d ∧ Dp K H u d ∧ d.depth ≤ n ∧ smA d ∧ ∀ H', Go (fun _ => False) H0 H H0 H' → Q (.bl true) H'
def spRec (K : PySem.W.Frag) (n : Nat) : Sp := fun vs H Q E => ∃ m, n = m + 1 ∧ spSame K m vs H Q E
theorem same_step {f : Addr} {fd : FuncData} (n : Nat) (F : Fun K "_law_same" "_law_same" s_same f fd) (D__law_same : Def P w K mg base "_law_same" n (spRec K n)) (m_isinstance : mg "isinstance" = none) (m_bool : mg "bool" = none) (m_int : mg "int" = none) (m_str : mg "str" = none)
    (m_list : mg "list" = none) (m_tuple : mg "tuple" = none) (m_len : mg "len" = none) (m_all : mg "all" = none) (m_range : mg "range" = none) : FnOk P w K mg base CX0 (n + 1) f fd ["_law_found", "_law_due"] (spSame K n) := by
  refine F.ok sc_same (fun vs H Q E h => ?_) (fun cdv A outer s H vs Q E hr h => ?_)
  · obtain ⟨v, u, d, H0, rfl, _⟩ := h
    rfl
  · obtain ⟨v, u, d, H0, rfl, e0, hv, hu, hdep, hsm, q⟩ := h
    refine ⟨_, (pss_cons (ps_if (pt_cmpR op_isN (pv 1) pe_non (nomark _)) (pss_one (ps_ret (pe_cmpR op_isN (pv 0) pe_non (nomark _)))) pss_nil)
      (pss_cons (ps_if (PW.pt (pw_or (pt_val (pe_callB call_isi (by rfl) m_isinstance bt_isinstance (pa_cons (pv 1) (pa_cons (pe_bltn (v := .ty "bool") (by rfl) m_bool bt_bool rfl) pa_nil)))) (pw_or1 (pt_val (pe_callB call_isi (by rfl) m_isinstance bt_isinstance (pa_cons (pv 0) (pa_cons (pe_bltn (v := .ty "bool") (by rfl) m_bool bt_bool rfl) pa_nil))))))) (pss_one (ps_ret (pe_and (pe_callB call_isi (by rfl) m_isinstance bt_isinstance (pa_cons (pv 1) (pa_cons (pe_bltn (v := .ty "bool") (by rfl) m_bool bt_bool rfl) pa_nil))) (pe_and (pe_callB call_isi (by rfl) m_isinstance bt_isinstance (pa_cons (pv 0) (pa_cons (pe_bltn (v := .ty "bool") (by rfl) m_bool bt_bool rfl) pa_nil))) (pe_one (pe_cmpR op_eq (pv 0) (pv 1) (nomark _))))))) pss_nil)
      (pss_cons (ps_if (pt_val (pe_callB call_isiT (by rfl) m_isinstance bt_isinstance (pa_cons (pv 1) (pa_cons (pe_tup (pa_cons (pe_bltn (v := .ty "int") (by rfl) m_int bt_int rfl) (pa_cons (pe_bltn (v := .ty "str") (by rfl) m_str bt_str rfl) pa_nil))) pa_nil)))) (pss_one (ps_ret (pe_and (pe_cmpR op_eq (pe_callB call_isi (by rfl) m_isinstance bt_isinstance (pa_cons (pv 0) (pa_cons (pe_bltn (v := .ty "int") (by rfl) m_int bt_int rfl) pa_nil))) (pe_callB call_isi (by rfl) m_isinstance bt_isinstance (pa_cons (pv 1) (pa_cons (pe_bltn (v := .ty "int") (by rfl) m_int bt_int rfl) pa_nil))) (nomark _)) (pe_and (pe_callB call_isiT (by rfl) m_isinstance bt_isinstance (pa_cons (pv 0) (pa_cons (pe_tup (pa_cons (pe_bltn (v := .ty "int") (by rfl) m_int bt_int rfl) (pa_cons (pe_bltn (v := .ty "str") (by rfl) m_str bt_str rfl) pa_nil))) pa_nil))) (pe_one (pe_cmpR op_eq (pv 0) (pv 1) (nomark _))))))) pss_nil)
      (pss_cons (ps_if (PW.pt (pw_or (pt_cmpR op_ne (pe_callB call_isi (by rfl) m_isinstance bt_isinstance (pa_cons (pv 0) (pa_cons (pe_bltn (v := .ty "list") (by rfl) m_list bt_list rfl) pa_nil))) (pe_callB call_isi (by rfl) m_isinstance bt_isinstance (pa_cons (pv 1) (pa_cons (pe_bltn (v := .ty "list") (by rfl) m_list bt_list rfl) pa_nil))) (nomark _)) (pw_or1 (pt_cmpR op_ne (pe_callB call_isi (by rfl) m_isinstance bt_isinstance (pa_cons (pv 0) (pa_cons (pe_bltn (v := .ty "tuple") (by rfl) m_tuple bt_tuple rfl) pa_nil))) (pe_callB call_isi (by rfl) m_isinstance bt_isinstance (pa_cons (pv 1) (pa_cons (pe_bltn (v := .ty "tuple") (by rfl) m_tuple bt_tuple rfl) pa_nil))) (nomark _))))) (pss_one (ps_ret pe_bl)) pss_nil)
      (pss_one (ps_ret (pe_and (pe_cmpR op_eq (pe_callB call_len_seq (by rfl) m_len PySem.boot_len (pa_cons (pv 0) pa_nil)) (pe_callB call_len_seq (by rfl) m_len PySem.boot_len (pa_cons (pv 1) pa_nil)) (nomark _)) (pe_one (pe_callB (cr_all rfl) (by rfl) m_all bt_all (pa_cons (pe_lc (own := [("_law_k", 2)]) (g := gName 2) (tt := tYes) rfl sc_same.nd (pi_range1 rfl m_range (pa_cons (pe_callB call_len_seq (by rfl) m_len PySem.boot_len (pa_cons (pv 1) pa_nil)) pa_nil)) (blkOk_by (N := ["_law_found", "_law_due", "_law_k"]) (sc := defScope s_same) (by decide +kernel)) (fun _ _ _ _ _ => pg_name (i := 2) sc_same.nd rfl (Or.inl rfl)) (fun _ _ _ _ _ => pts_nil) (fun _ _ _ _ _ => (pe_d D__law_same hr rfl (pa_cons (pe_ix (r := rIx K) ix_seq (pv 0) (pv 2) (fun _ _ => rfl)) (pa_cons (pe_ix (r := rIx K) ix_seq (pv 1) (pv 2) (fun _ _ => rfl)) pa_nil))))) pa_nil)))))))))), ?_⟩
    have g0 := Go.refl (m := fun _ => False) e0
    cases hu with
    | non =>
      cases hv
      refine ⟨_, rfl, rfl, _, rfl, ifT rfl ?_⟩
      exact ⟨_, rfl, rfl, q _ g0⟩
    | bl b =>
      cases hv
      refine ⟨_, rfl, rfl, _, rfl, ifF rfl ?_⟩
      refine ⟨_, rfl, _, _, _, _, true, rfl, .ty "bool", .base (.bl b), kit_ty (by decide +kernel), _, rfl, ifT rfl ?_⟩
      refine ⟨_, rfl, _, _, _, _, true, rfl, .ty "bool", .base (.bl b), kit_ty (by decide +kernel), _, rfl, ifT rfl ?_⟩
      refine ⟨_, rfl, _, _, _, _, true, rfl, .ty "bool", .base (.bl b), kit_ty (by decide +kernel), _, rfl, ifT rfl ?_⟩
      refine ⟨_, rfl, _, rfl, rfl, ?_⟩
      rw [decide_eq_true rfl]
      exact q _ g0
    | int i =>
      cases hv
      refine ⟨_, rfl, rfl, _, rfl, ifF rfl ?_⟩
      refine ⟨_, rfl, _, _, _, _, false, rfl, .ty "bool", .base (.int i), kit_ty (by decide +kernel), _, rfl, ifF rfl ?_⟩
      refine ⟨_, rfl, _, _, _, _, false, rfl, .ty "bool", .base (.int i), kit_ty (by decide +kernel), _, rfl, ifF rfl ?_⟩
      refine ⟨_, rfl, (by show 2 ≤ sizeLine; decide), fun t ht => ?_⟩
      have g1 := g0.lay (.tup [.ty "int", .ty "str"]) ht
      refine ⟨_, t, _, _, [.type "int", .type "str"], true, rfl, upd_same, .cons (.ty _) (.cons (.ty _) .nil), .base (.int i), kitAny_cons (b := true) (kit_ty (by decide +kernel)) (fun z => nomatch z) (fun _ => rfl), _, rfl, ifT rfl ?_⟩
      refine ⟨_, rfl, _, _, _, _, true, rfl, .ty "int", .base (.int i), kit_ty (by decide +kernel), _, rfl, _, _, _, _, true, rfl, .ty "int", .base (.int i), kit_ty (by decide +kernel), rfl, _, rfl, ifT rfl ?_⟩
      refine ⟨_, rfl, (by show 2 ≤ sizeLine; decide), fun t2 ht2 => ?_⟩
      have g2 := g1.lay (.tup [.ty "int", .ty "str"]) ht2
      refine ⟨_, t2, _, _, [.type "int", .type "str"], true, rfl, upd_same, .cons (.ty _) (.cons (.ty _) .nil), .base (.int i), kitAny_cons (b := true) (kit_ty (by decide +kernel)) (fun z => nomatch z) (fun _ => rfl), _, rfl, ifT rfl ?_⟩
      refine ⟨_, rfl, _, rfl, rfl, ?_⟩
      rw [decide_eq_true rfl]
      exact q _ g2
    | str x =>
      cases hv
      refine ⟨_, rfl, rfl, _, rfl, ifF rfl ?_⟩
      refine ⟨_, rfl, _, _, _, _, false, rfl, .ty "bool", .base (.str x), kit_ty (by decide +kernel), _, rfl, ifF rfl ?_⟩
      refine ⟨_, rfl, _, _, _, _, false, rfl, .ty "bool", .base (.str x), kit_ty (by decide +kernel), _, rfl, ifF rfl ?_⟩
      refine ⟨_, rfl, (by show 2 ≤ sizeLine; decide), fun t ht => ?_⟩
      have g1 := g0.lay (.tup [.ty "int", .ty "str"]) ht
      refine ⟨_, t, _, _, [.type "int", .type "str"], true, rfl, upd_same, .cons (.ty _) (.cons (.ty _) .nil), .base (.str x), kitAny_cons (b := false) (kit_ty (by decide +kernel)) (fun _ => kitAny_cons (b := true) (kit_ty (by decide +kernel)) (fun z => nomatch z) (fun _ => rfl)) (fun z => nomatch z), _, rfl, ifT rfl ?_⟩
      refine ⟨_, rfl, _, _, _, _, false, rfl, .ty "int", .base (.str x), kit_ty (by decide +kernel), _, rfl, _, _, _, _, false, rfl, .ty "int", .base (.str x), kit_ty (by decide +kernel), rfl, _, rfl, ifT rfl ?_⟩
      refine ⟨_, rfl, (by show 2 ≤ sizeLine; decide), fun t2 ht2 => ?_⟩
      have g2 := g1.lay (.tup [.ty "int", .ty "str"]) ht2
      refine ⟨_, t2, _, _, [.type "int", .type "str"], true, rfl, upd_same, .cons (.ty _) (.cons (.ty _) .nil), .base (.str x), kitAny_cons (b := false) (kit_ty (by decide +kernel)) (fun _ => kitAny_cons (b := true) (kit_ty (by decide +kernel)) (fun z => nomatch z) (fun _ => rfl)) (fun z => nomatch z), _, rfl, ifT rfl ?_⟩
      refine ⟨_, rfl, _, rfl, rfl, ?_⟩
      rw [decide_eq_true rfl]
      exact q _ g2
    | @lst pu us ds su au =>
      cases hv with
      | @lst pv_ vs _ sv av =>
      refine ⟨_, rfl, rfl, _, rfl, ifF rfl ?_⟩
      refine ⟨_, rfl, _, _, _, _, false, rfl, .ty "bool", tyL su, kit_ty (by decide +kernel), _, rfl, ifF rfl ?_⟩
      refine ⟨_, rfl, _, _, _, _, false, rfl, .ty "bool", tyL sv, kit_ty (by decide +kernel), _, rfl, ifF rfl ?_⟩
      refine ⟨_, rfl, (by show 2 ≤ sizeLine; decide), fun t ht => ?_⟩
      have g1 := g0.lay (.tup [.ty "int", .ty "str"]) ht
      have x1 := go_ex g1
      refine ⟨_, t, _, _, [.type "int", .type "str"], false, rfl, upd_same, .cons (.ty _) (.cons (.ty _) .nil), tyL (x1.seq su), kitAny_cons (b := false) (kit_ty (by decide +kernel)) (fun _ => kitAny_cons (b := false) (kit_ty (by decide +kernel)) (fun _ => kitAny_nil) (fun z => nomatch z)) (fun z => nomatch z), _, rfl, ifF rfl ?_⟩
      refine ⟨_, rfl, _, _, _, _, true, rfl, .ty "list", tyL (x1.seq sv), kit_ty (by decide +kernel), _, rfl, _, _, _, _, true, rfl, .ty "list", tyL (x1.seq su), kit_ty (by decide +kernel), rfl, _, rfl, ifF rfl ?_⟩
      refine ⟨_, rfl, _, _, _, _, false, rfl, .ty "tuple", tyL (x1.seq sv), kit_ty (by decide +kernel), _, rfl, _, _, _, _, false, rfl, .ty "tuple", tyL (x1.seq su), kit_ty (by decide +kernel), rfl, _, rfl, ifF rfl ?_⟩
      have lv := dpa_len av
      have lu := dpa_len au
      refine ⟨_, rfl, pv_, vs, rfl, .inl (x1.seq sv), _, rfl, pu, us, rfl, .inl (x1.seq su), rfl, _, rfl, ifT (decide_eq_true (by rw [lv, lu])) ?_⟩
      refine ⟨_, rfl, pu, us, rfl, .inl (x1.seq su), _, rfl, by omega, by have := hsm.1; omega, fun D hD => lc_range (lo := 0) (n := us.length) (fun i H' => H' D = some (.lst (List.replicate i (.bl true))) ∧ Go (fun _ => False) H0 H H0 H') ⟨upd_same, g1.lay _ hD⟩ (fun i H' hi p => ?_) (fun H1 p => ?_)⟩
      · obtain ⟨d, hd⟩ : ∃ d, ds[i]? = some d := ⟨_, List.getElem?_eq_getElem (by omega)⟩
        obtain ⟨a, ha, da⟩ := dpa_at _ _ i d av hd
        obtain ⟨b, hb, db⟩ := dpa_at _ _ i d au hd
        have dd := dep_at hd
        have xp := go_ex p.2
        obtain ⟨m, rfl⟩ : ∃ m, n = m + 1 := ⟨n - 1, by have : PyData.depthAll ds + 1 ≤ n := hdep; omega⟩
        have dm : d.depth ≤ m := by
          have : PyData.depthAll ds + 1 ≤ m + 1 := hdep
          omega
        refine ⟨rfl, ?_⟩
        refine ⟨_, rfl, _, rfl, .inl ⟨pv_, vs, _, a, rfl, rfl, xp.seq sv, at_of (j := i) (by omega) ha, _, rfl, _, rfl, .inl ⟨pu, us, _, b, rfl, rfl, xp.seq su, at_of (j := i) (by omega) hb, ?_⟩⟩⟩
        refine ⟨m, rfl, a, b, d, H0, rfl, p.2.inn, dp_up xp _ _ da, dp_up xp _ _ db, dm, sm_at hsm.2 hd, fun H2 g2 => ?_⟩
        have hD2 := g2.keep _ _ p.1 (fun z => z)
        refine ⟨_, hD2, mem_lt (by have := hsm.1; rw [List.length_replicate]; omega), ?_, (p.2.then g2).turn _ (g1.fresh hD) (g1.fresh0 hD)⟩
        rw [upd_same, List.replicate_succ']
      · have pn : H1 D = some (.lst ((List.replicate us.length true).map V.bl)) := by rw [p.1, List.map_replicate]
        refine ⟨D, _, rfl, SqL.of pn, ?_⟩
        rw [all_rep]
        exact q _ p.2
    | @tup pu us ds su au =>
      cases hv with
      | @tup pv_ vs _ sv av =>
      refine ⟨_, rfl, rfl, _, rfl, ifF rfl ?_⟩
      refine ⟨_, rfl, _, _, _, _, false, rfl, .ty "bool", tyT su, kit_ty (by decide +kernel), _, rfl, ifF rfl ?_⟩
      refine ⟨_, rfl, _, _, _, _, false, rfl, .ty "bool", tyT sv, kit_ty (by decide +kernel), _, rfl, ifF rfl ?_⟩
      refine ⟨_, rfl, (by show 2 ≤ sizeLine; decide), fun t ht => ?_⟩
      have g1 := g0.lay (.tup [.ty "int", .ty "str"]) ht
      have x1 := go_ex g1
      refine ⟨_, t, _, _, [.type "int", .type "str"], false, rfl, upd_same, .cons (.ty _) (.cons (.ty _) .nil), tyT (x1.tup su), kitAny_cons (b := false) (kit_ty (by decide +kernel)) (fun _ => kitAny_cons (b := false) (kit_ty (by decide +kernel)) (fun _ => kitAny_nil) (fun z => nomatch z)) (fun z => nomatch z), _, rfl, ifF rfl ?_⟩
      refine ⟨_, rfl, _, _, _, _, false, rfl, .ty "list", tyT (x1.tup sv), kit_ty (by decide +kernel), _, rfl, _, _, _, _, false, rfl, .ty "list", tyT (x1.tup su), kit_ty (by decide +kernel), rfl, _, rfl, ifF rfl ?_⟩
      refine ⟨_, rfl, _, _, _, _, true, rfl, .ty "tuple", tyT (x1.tup sv), kit_ty (by decide +kernel), _, rfl, _, _, _, _, true, rfl, .ty "tuple", tyT (x1.tup su), kit_ty (by decide +kernel), rfl, _, rfl, ifF rfl ?_⟩
      have lv := dpa_len av
      have lu := dpa_len au
      refine ⟨_, rfl, pv_, vs, rfl, .inr (x1.tup sv), _, rfl, pu, us, rfl, .inr (x1.tup su), rfl, _, rfl, ifT (decide_eq_true (by rw [lv, lu])) ?_⟩
      refine ⟨_, rfl, pu, us, rfl, .inr (x1.tup su), _, rfl, by omega, by have := hsm.1; omega, fun D hD => lc_range (lo := 0) (n := us.length) (fun i H' => H' D = some (.lst (List.replicate i (.bl true))) ∧ Go (fun _ => False) H0 H H0 H') ⟨upd_same, g1.lay _ hD⟩ (fun i H' hi p => ?_) (fun H1 p => ?_)⟩
      · obtain ⟨d, hd⟩ : ∃ d, ds[i]? = some d := ⟨_, List.getElem?_eq_getElem (by omega)⟩
        obtain ⟨a, ha, da⟩ := dpa_at _ _ i d av hd
        obtain ⟨b, hb, db⟩ := dpa_at _ _ i d au hd
        have dd := dep_at hd
        have xp := go_ex p.2
        obtain ⟨m, rfl⟩ : ∃ m, n = m + 1 := ⟨n - 1, by have : PyData.depthAll ds + 1 ≤ n := hdep; omega⟩
        have dm : d.depth ≤ m := by
          have : PyData.depthAll ds + 1 ≤ m + 1 := hdep
          omega
        refine ⟨rfl, ?_⟩
        refine ⟨_, rfl, _, rfl, .inr (.inl ⟨pv_, vs, _, a, rfl, rfl, xp.tup sv, at_of (j := i) (by omega) ha, _, rfl, _, rfl, .inr (.inl ⟨pu, us, _, b, rfl, rfl, xp.tup su, at_of (j := i) (by omega) hb, ?_⟩)⟩)⟩
        refine ⟨m, rfl, a, b, d, H0, rfl, p.2.inn, dp_up xp _ _ da, dp_up xp _ _ db, dm, sm_at hsm.2 hd, fun H2 g2 => ?_⟩
        have hD2 := g2.keep _ _ p.1 (fun z => z)
        refine ⟨_, hD2, mem_lt (by have := hsm.1; rw [List.length_replicate]; omega), ?_, (p.2.then g2).turn _ (g1.fresh hD) (g1.fresh0 hD)⟩
        rw [upd_same, List.replicate_succ']
      · have pn : H1 D = some (.lst ((List.replicate us.length true).map V.bl)) := by rw [p.1, List.map_replicate]
        refine ⟨D, _, rfl, SqL.of pn, ?_⟩
        rw [all_rep]
        exact q _ p.2
theorem ok_same {f : Addr} {fd : FuncData} (F : Fun K "_law_same" "_law_same" s_same f fd) (bF : L2.Binds K fd ["_law_found", "_law_due"] []) (gF : mg "_law_same" = some (.ref f)) (m_isinstance : mg "isinstance" = none) (m_bool : mg "bool" = none) (m_int : mg "int" = none) (m_str : mg "str" = none)
    (m_list : mg "list" = none) (m_tuple : mg "tuple" = none) (m_len : mg "len" = none) (m_all : mg "all" = none) (m_range : mg "range" = none) : ∀ n, FnOk P w K mg base CX0 (n + 1) f fd ["_law_found", "_law_due"] (spSame K n)
  | 0 => same_step 0 F ⟨f, fd, _, _, gF, ⟨fun _ _ _ _ ⟨_, e, _⟩ => by omega, fun _ _ _ _ _ _ _ _ _ _ _ _ _ ⟨_, e, _⟩ => by omega⟩, F.kp, bF, .nil⟩ m_isinstance m_bool m_int m_str m_list m_tuple m_len m_all m_range
  | n + 1 => same_step (n + 1) F ⟨f, fd, _, _, gF, (ok_same F bF gF m_isinstance m_bool m_int m_str m_list m_tuple m_len m_all m_range n).imp fun vs H Q E ⟨m, e, h⟩ => by
      obtain rfl : m = n := by omega
      exact h, F.kp, bF, .nil⟩ m_isinstance m_bool m_int m_str m_list m_tuple m_len m_all m_range
abbrev s_law_gcd : Stmt := topS 8
theorem sc_law_gcd : FnScope ["_law_one_here", "_law_other", "_law_rest"] ["_law_one_here", "_law_other"] (defScope s_law_gcd) := ⟨rfl, rfl, rfl, by decide +kernel, rfl, by decide +kernel, by decide +kernel⟩
theorem ok_law_gcd {f : Addr} {fd : FuncData} (F : Fun K "_law_gcd" "_law_gcd" s_law_gcd f fd) : FnOk P w K mg base CX0 1 f fd ["_law_one_here", "_law_other"] spGcd := by
  refine F.ok sc_law_gcd (fun vs H Q E h => ?_) (fun cdv A outer s H vs Q E hr h => ?_)
  · obtain ⟨a, b, rfl, _⟩ := h
    rfl
  · obtain ⟨a, b, rfl, q⟩ := h
    refine ⟨_, (pss_cons (ps_while PassesOwn.never (pt_cmpR op_gt (pv 1) pe_int (nomark _)) (pss_cons (ps_set (i := 2) sc_law_gcd.nd rfl (Or.inl rfl) (pe_op op_mod (pv 0) (pv 1)))
      (pss_cons (ps_set (i := 0) sc_law_gcd.nd rfl (Or.inl rfl) (pv 1))
      (pss_one (ps_set (i := 1) sc_law_gcd.nd rfl (Or.inl rfl) (pv 2))))))
      (pss_one (ps_ret (pv 0)))), ?_⟩
    refine while_by (fun σ H' => H' = H ∧ ∃ (x y : Nat) (v : Option V), σ = [some (.int (x : Int)), some (.int (y : Int)), v] ∧ Nat.gcd x y = Nat.gcd a b) (fun σ _ => match σ with | [_, some (.int y), _] => y.toNat | _ => 0) ⟨rfl, a, b, none, rfl, rfl⟩ ?_ ?_
    · rintro σ H' ⟨rfl, x, y, v, rfl, e⟩
      refine ⟨_, rfl, _, _, rfl, rfl, _, rfl, ifD (fun c => ?_) (fun c => ?_)⟩
      · refine ⟨_, rfl, _, rfl, _, _, rfl, rfl, c, ?_⟩
        refine ⟨_, rfl, _, rfl, ⟨rfl, y, x % y, _, rfl, ?_⟩, ?_⟩
        · rw [← e, Nat.gcd_comm x y, Nat.gcd_rec y x, Nat.gcd_comm]
        · have : x % y < y := Nat.mod_lt _ (by omega)
          show ((x : Int) % (y : Int)).toNat < ((y : Nat) : Int).toNat
          omega
      · obtain rfl : y = 0 := by omega
        rw [Nat.gcd_zero_right] at e
        subst e
        exact ⟨_, rfl, q⟩
    · intro σ H Q Q' hq h
      obtain ⟨x, hx, i, j, h1, h2, k, hk, h3⟩ := h
      exact ⟨x, hx, i, j, h1, h2, k, hk, hq _ _ h3⟩
abbrev s_law_share : Stmt := topS 9
theorem sc_law_share : FnScope ["_law_top", "_law_bottom", "_law_part"] ["_law_top", "_law_bottom"] (defScope s_law_share) := ⟨rfl, rfl, rfl, by decide +kernel, rfl, by decide +kernel, by decide +kernel⟩
theorem ok_law_share {f : Addr} {fd : FuncData} (F : Fun K "_law_share" "_law_share" s_law_share f fd) (D__law_gcd : Def P w K mg base "_law_gcd" 1 spGcd) (m_abs : mg "abs" = none) : FnOk P w K mg base CX0 2 f fd ["_law_top", "_law_bottom"] spShare := by
  refine F.ok sc_law_share (fun vs H Q E h => ?_) (fun cdv A outer s H vs Q E hr h => ?_)
  · obtain ⟨a, b, rfl, _⟩ := h
    rfl
  · obtain ⟨t, b, rfl, h0, hb, q⟩ := h
    refine ⟨_, (pss_cons (ps_set (i := 2) sc_law_share.nd rfl (Or.inl rfl) (pe_d D__law_gcd (hr.mono (by decide)) rfl (pa_cons (pe_callB call_abs (by rfl) m_abs bt_abs (pa_cons (pv 0) pa_nil)) (pa_cons (pv 1) pa_nil))))
      (pss_one (ps_ret (pe_tup (pa_cons (pe_op op_fdivW (pv 0) (pv 2)) (pa_cons (pe_op op_fdivW (pv 1) (pv 2)) pa_nil)))))), ?_⟩
    have hg : ((Nat.gcd t.natAbs b.toNat : Nat) : Int) = gc t b := by
      unfold gc
      congr 2
      omega
    refine ⟨_, rfl, _, rfl, _, rfl, t.natAbs, b.toNat, by rw [abs_eq, Int.toNat_of_nonneg (by omega)]; rfl, ?_⟩
    rw [hg]
    exact ⟨_, rfl, _, rfl, _, _, rfl, rfl, div_ok h0 hb, _, rfl, _, rfl, _, _, rfl, rfl, div_ok h0 hb, (by show 2 ≤ sizeLine; decide), q⟩
abbrev s_share : Stmt := topS 2
theorem sc_share : FnScope ["top", "bottom", "common"] ["top", "bottom"] (defScope s_share) := ⟨rfl, rfl, rfl, by decide +kernel, rfl, by decide +kernel, by decide +kernel⟩
theorem ok_share {f : Addr} {fd : FuncData} (F : Fun K "share" "share" s_share f fd) (g_gcd : mg "gcd" = some (.builtin "math.gcd")) : FnOk P w K mg base CX0 1 f fd ["top", "bottom"] spShare := by
  refine F.ok sc_share (fun vs H Q E h => ?_) (fun cdv A outer s H vs Q E hr h => ?_)
  · obtain ⟨a, b, rfl, _⟩ := h
    rfl
  · obtain ⟨t, b, rfl, h0, hb, q⟩ := h
    refine ⟨_, (pss_cons (ps_set (i := 2) sc_share.nd rfl (Or.inl rfl) (pe_callBfun cr_gcd (by rfl) g_gcd (pa_cons (pv 0) (pa_cons (pv 1) pa_nil))))
      (pss_one (ps_ret (pe_tup (pa_cons (pe_op op_fdivW (pv 0) (pv 2)) (pa_cons (pe_op op_fdivW (pv 1) (pv 2)) pa_nil)))))), ?_⟩
    exact ⟨_, rfl, _, rfl, t, b, rfl, _, rfl, _, rfl, _, _, rfl, rfl, div_ok h0 hb, _, rfl, _, rfl, _, _, rfl, rfl, div_ok h0 hb, (by show 2 ≤ sizeLine; decide), q⟩
end
end Rt

namespace Rt
open PySem PySem.Spec PyProof.Rows L2
section
variable {P : Program} {w : World} {K : PySem.W.Frag} {mg : Str → Option Value} {base : Heap}
abbrev s_law_k21 : Stmt := topS 11
theorem sc_law_k21 : FnScope ["_law_script", "_law_draw", "_law_turn", "_law_part", "_law_upper", "_law_lower", "_law_due"] ["_law_script"] (defScope s_law_k21) := ⟨rfl, rfl, rfl, by decide +kernel, rfl, by decide +kernel, by decide +kernel⟩
def spLaw (K : PySem.W.Frag) : Sp := fun vs H Q _ => ∃ (a : Addr) (ns : List Int), vs = [.ref a] ∧ SqL K H a (ns.map V.int) ∧ ∀ H', Q (.bl true) H'
theorem ok_law {f : Addr} {fd : FuncData} (F : Fun K "law" "law" s_law_k21 f fd) (D__law_begin : Def P w K mg base "_law_begin" 1 (spBegin K)) (D__law_pick : Def P w K mg base "_law_pick" 1 spPick) (D__law_one : Def P w K mg base "_law_one" 2 spOne) (D__law_far : Def P w K mg base "_law_far" 2 spFar)
    (D__law_gcd : Def P w K mg base "_law_gcd" 1 spGcd) (D__law_share : Def P w K mg base "_law_share" 2 spShare) (D_share : Def P w K mg base "share" 1 spShare) (D__law_same : Def P w K mg base "_law_same" 4 (spSame K 3))
    (m_range : mg "range" = none) (m_abs : mg "abs" = none) : FnOk P w K mg base CX0 5 f fd ["_law_script"] (spLaw K) := by
  refine F.ok sc_law_k21 (fun vs H Q E h => ?_) (fun cdv A outer s H vs Q E hr h => ?_)
  · obtain ⟨a, ns, rfl, _⟩ := h
    rfl
  · obtain ⟨a, ns, rfl, hS, q⟩ := h
    refine ⟨_, (pss_cons (ps_set (i := 1) sc_law_k21.nd rfl (Or.inl rfl) (pe_d D__law_begin (hr.mono (by decide)) rfl (pa_cons (pv 0) pa_nil)))
      (pss_cons (ps_for PassesOwn.never rfl (pi_range1 rfl m_range (pa_cons pe_int pa_nil)) (pg_name (i := 2) sc_law_k21.nd rfl (Or.inl rfl)) (pss_cons (ps_set (i := 3) sc_law_k21.nd rfl (Or.inl rfl) (pe_op op_add pe_int (pe_d D__law_pick (hr.mono (by decide)) rfl (pa_cons (pv 1) (pa_cons pe_int pa_nil)))))
      (pss_cons (ps_set (i := 4) sc_law_k21.nd rfl (Or.inl rfl) (pe_d D__law_one (hr.mono (by decide)) rfl (pa_cons (pv 1) (pa_cons (pe_lst (pa_cons pe_int (pa_cons (pe_op op_sub (pe_d D__law_pick (hr.mono (by decide)) rfl (pa_cons (pv 1) (pa_cons pe_int pa_nil))) pe_int) (pa_cons (pe_d D__law_far (hr.mono (by decide)) rfl (pa_cons (pv 1) pa_nil)) (pa_cons (pv 3) pa_nil))))) pa_nil))))
      (pss_cons (ps_set (i := 5) sc_law_k21.nd rfl (Or.inl rfl) (pe_op op_add pe_int (pe_d D__law_one (hr.mono (by decide)) rfl (pa_cons (pv 1) (pa_cons (pe_lst (pa_cons pe_int (pa_cons (pe_d D__law_pick (hr.mono (by decide)) rfl (pa_cons (pv 1) (pa_cons pe_int pa_nil))) (pa_cons (pe_callB call_abs (by rfl) m_abs bt_abs (pa_cons (pe_d D__law_far (hr.mono (by decide)) rfl (pa_cons (pv 1) pa_nil)) pa_nil)) (pa_cons (pe_op op_sub (pv 3) pe_int) pa_nil))))) pa_nil)))))
      (pss_cons (ps_set (i := 6) sc_law_k21.nd rfl (Or.inl rfl) (pe_d D__law_share (hr.mono (by decide)) rfl (pa_cons (pv 4) (pa_cons (pv 5) pa_nil))))
      (pss_cons (ps_if (pt_not (pt_val (pe_d D__law_same (hr.mono (by decide)) rfl (pa_cons (pe_lst (pa_cons (pe_d D_share (hr.mono (by decide)) rfl (pa_cons (pv 4) (pa_cons (pv 5) pa_nil))) (pa_cons (pe_d D_share (hr.mono (by decide)) rfl (pa_cons (pe_op op_mulW (pv 3) (pv 4)) (pa_cons (pe_op op_mulW (pv 3) (pv 5)) pa_nil))) pa_nil))) (pa_cons (pe_lst (pa_cons (pv 6) (pa_cons (pv 6) pa_nil))) pa_nil))))) (pss_one (ps_ret pe_bl)) pss_nil)
      (pss_one (ps_if (PW.pt (pw_or (pt_cmpR op_ne (pe_op op_mulW (pe_ix ix_tup (pv 6) pe_int (fun _ _ => rfl)) (pv 5)) (pe_op op_mulW (pv 4) (pe_ix ix_tup (pv 6) pe_int (fun _ _ => rfl))) (nomark _)) (pw_or1 (pt_cmpR op_ne (pe_d D__law_gcd (hr.mono (by decide)) rfl (pa_cons (pe_callB call_abs (by rfl) m_abs bt_abs (pa_cons (pe_ix ix_tup (pv 6) pe_int (fun _ _ => rfl)) pa_nil)) (pa_cons (pe_ix ix_tup (pv 6) pe_int (fun _ _ => rfl)) pa_nil))) pe_int (nomark _))))) (pss_one (ps_ret pe_bl)) pss_nil))))))))
      (pss_one (ps_ret (pe_d D__law_same (hr.mono (by decide)) rfl (pa_cons (pe_d D_share (hr.mono (by decide)) rfl (pa_cons (pe_op op_sub pe_int pe_int) (pa_cons pe_int pa_nil))) (pa_cons (pe_tup (pa_cons (pe_op op_sub pe_int pe_int) (pa_cons pe_int pa_nil))) pa_nil))))))), ?_⟩
    refine ⟨_, rfl, a, ns, fun _ => none, rfl, hS, (fun b o z => by cases z), fun d H0 H1 gA hD _ => ?_⟩
    have pw : (2 : Nat) ^ 200 ≤ 2 ^ 4000 := Nat.pow_le_pow_right (by decide) (by decide)
    refine ⟨10, rfl, by decide, by decide, for_range (lo := 0) (n := 10) (fun i σ H' => ∃ (v2 v3 v4 v5 v6 : Option V) (A0 : Hp), σ = [some (.ref a), some (.ref d), v2, v3, v4, v5, v6] ∧ Ex A0 H' ∧ Dr A0 H' d)
      ⟨none, none, none, none, none, H0, rfl, gA.inn, hD⟩ ?_ ?_⟩
    · clear gA hD
      rintro i σ B0 hi ⟨v2, v3, v4, v5, v6, A0, rfl, eA, dA⟩
      have S := Sd.here eA dA
      -- part
      refine ⟨_, rfl, d, 90, _, rfl, by decide, by decide, S.ex, S.dr, fun x H x0 x1 g hD => ?_⟩
      have S := S.call g hD
      refine ⟨_, _, rfl, rfl, ?_⟩
      dsimp only
      generalize hk : 1 + x = k
      have k0 : 0 < k := by omega
      have k1 : k ≤ 90 := by omega
      -- upper
      refine ⟨_, rfl, _, rfl, d, 1000, _, rfl, by decide, by decide, S.ex, S.dr, fun y H y0 y1 g hD => ?_⟩
      have S := S.call g hD
      refine ⟨_, _, rfl, rfl, _, rfl, d, _, rfl, S.ex, S.dr, fun z H0 H z0 g hD => ?_⟩
      have S := S.call g hD
      refine ⟨_, rfl, (by show 4 ≤ sizeLine; decide), ?_⟩
      dsimp only
      refine fun p hp => ?_
      have S := S.put (.lst [.int 0, .int (y - 500), .int z, .int k]) hp
      refine ⟨d, p, _, _, rfl, S.ex, S.dr, upd_same, (by show 0 < 4; decide), (by show 4 ≤ 1000000000; decide), fun j v H hv g hD => ?_⟩
      have S := S.call g hD
      obtain ⟨u, rfl, hu⟩ : ∃ u : Int, v = .int u ∧ u.natAbs < 10 ^ 30 := by
        have b : (500 : Nat) < 10 ^ 30 := by decide
        match j, hv with
        | 0, hv => exact ⟨_, (Option.some.inj hv).symm, by decide⟩
        | 1, hv => exact ⟨_, (Option.some.inj hv).symm, by omega⟩
        | 2, hv => exact ⟨_, (Option.some.inj hv).symm, z0⟩
        | 3, hv => exact ⟨_, (Option.some.inj hv).symm, by omega⟩
        | j + 4, hv => simp at hv
      -- lower
      refine ⟨_, rfl, _, rfl, d, 1000, _, rfl, by decide, by decide, S.ex, S.dr, fun y2 H y20 y21 g hD => ?_⟩
      have S := S.call g hD
      refine ⟨_, rfl, d, _, rfl, S.ex, S.dr, fun z2 H0 H z20 g hD => ?_⟩
      have S := S.call g hD
      refine ⟨_, rfl, _, rfl, _, _, rfl, rfl, ?_⟩
      dsimp only
      rw [abs_eq]
      refine ⟨(by show 4 ≤ sizeLine; decide), fun p2 hp2 => ?_⟩
      have S := S.put (.lst [.int 0, .int y2, .int ((z2.natAbs : Nat) : Int), .int (k - 1)]) hp2
      refine ⟨d, p2, _, _, rfl, S.ex, S.dr, upd_same, (by show 0 < 4; decide), (by show 4 ≤ 1000000000; decide), fun j v H hv g hD => ?_⟩
      have S := S.call g hD
      obtain ⟨l, rfl, l0, hl⟩ : ∃ l : Int, v = .int l ∧ 0 ≤ l ∧ l.natAbs < 10 ^ 30 := by
        have b : (1000 : Nat) < 10 ^ 30 := by decide
        match j, hv with
        | 0, hv => exact ⟨_, (Option.some.inj hv).symm, by decide, by decide⟩
        | 1, hv => exact ⟨_, (Option.some.inj hv).symm, by omega, by omega⟩
        | 2, hv => exact ⟨_, (Option.some.inj hv).symm, by omega, by omega⟩
        | 3, hv => exact ⟨_, (Option.some.inj hv).symm, by omega, by omega⟩
        | j + 4, hv => simp at hv
      refine ⟨_, _, rfl, rfl, ?_⟩
      dsimp only
      generalize hb : 1 + l = b
      have b0 : 0 < b := by omega
      have b2 : b.natAbs < 2 ^ 110 := by
        have : (10 : Nat) ^ 30 + 1 ≤ 2 ^ 110 := by decide
        omega
      have u2 : u.natAbs < 2 ^ 110 := Nat.lt_of_lt_of_le hu (by decide)
      have bw : b.natAbs < 2 ^ 4000 := Nat.lt_of_lt_of_le b2 (Nat.pow_le_pow_right (by decide) (by decide))
      -- due
      refine ⟨_, rfl, _, rfl, u, b, rfl, b0, bw, fun e he => ?_⟩
      obtain ⟨G, H, eH, S, te, _⟩ := S.nw (.tup [.int (sh1 u b), .int (sh2 u b)]) he
      rw [eH]
      -- the shares
      refine ⟨_, rfl, _, rfl, u, b, rfl, b0, bw, fun e1 he1 => ?_⟩
      obtain ⟨G, H, eH, S, te1, x⟩ := S.nw (.tup [.int (sh1 u b), .int (sh2 u b)]) he1
      rw [eH]
      have te := x _ _ te
      refine ⟨_, rfl, _, rfl, _, _, rfl, rfl, ?c1, _, rfl, _, rfl, _, _, rfl, rfl, ?c2, k * u, k * b, rfl, Int.mul_pos k0 b0, ?c3, fun e2 he2 => ?_⟩
      case c1 => exact wide_mul (a := 7) (b := 110) (by have : (2 : Nat) ^ 7 = 128 := rfl; omega) u2 (by decide) (by decide) (by decide)
      case c2 => exact wide_mul (a := 7) (b := 110) (by have : (2 : Nat) ^ 7 = 128 := rfl; omega) b2 (by decide) (by decide) (by decide)
      case c3 => exact Nat.lt_of_lt_of_le (wide_lt (a := 7) (b := 110) (by have : (2 : Nat) ^ 7 = 128 := rfl; omega) b2) (Nat.pow_le_pow_right (by decide) (by decide))
      rw [sh1_mul k0, sh2_mul k0]
      obtain ⟨G, H, eH, S, te2, x⟩ := S.nw (.tup [.int (sh1 u b), .int (sh2 u b)]) he2
      rw [eH]
      have te := x _ _ te
      have te1 := x _ _ te1
      refine ⟨(by show 2 ≤ sizeLine; decide), fun p3 hp3 => ?_⟩
      obtain ⟨G, H, eH, S, tp, x⟩ := S.nw (.lst [.ref e1, .ref e2]) hp3
      rw [eH]
      have te := x _ _ te
      have te1 := x _ _ te1
      have te2 := x _ _ te2
      refine ⟨_, rfl, _, rfl, (by show 2 ≤ sizeLine; decide), fun p4 hp4 => ?_⟩
      obtain ⟨G, H, eH, S, tq, x⟩ := S.nw (.lst [.ref e, .ref e]) hp4
      rw [eH]
      have te := x _ _ te
      have te1 := x _ _ te1
      have te2 := x _ _ te2
      have tp := x _ _ tp
      have pd : ∀ (G : Hp) (x : Addr), G x = some (.tup [.int (sh1 u b), .int (sh2 u b)]) → Dp K G (.ref x) (.tuple [.int (sh1 u b), .int (sh2 u b)]) := fun G x hx => .tup (SqT.of hx) (.cons (.int _) (.cons (.int _) .nil))
      refine ⟨.ref p3, .ref p4, .list [.tuple [.int (sh1 u b), .int (sh2 u b)], .tuple [.int (sh1 u b), .int (sh2 u b)]], _, rfl, S.ex, .lst (SqL.of (S.ex _ _ tp)) (.cons (pd _ _ (S.ex _ _ te1)) (.cons (pd _ _ (S.ex _ _ te2)) .nil)), .lst (SqL.of (S.ex _ _ tq)) (.cons (pd _ _ (S.ex _ _ te)) (.cons (pd _ _ (S.ex _ _ te)) .nil)), (by show 2 ≤ 3; decide), ⟨(by show 2 ≤ 100000; decide), ⟨(by show 2 ≤ 100000; decide), True.intro, True.intro, True.intro⟩, ⟨(by show 2 ≤ 100000; decide), True.intro, True.intro, True.intro⟩, True.intro⟩, fun H g => ?_⟩
      have S := S.pure g
      refine ⟨_, rfl, ifF rfl ?_⟩
      -- as much, and no part in common
      refine ⟨_, rfl, e, _, _, _, rfl, rfl, SqT.of (S.ex _ _ te), at_of (j := 0) rfl rfl, _, rfl, _, _, rfl, rfl, wide_mul (a := 110) (b := 110) (Nat.lt_of_le_of_lt (sh1_le u b0) u2) b2 (by decide) (by decide) (by decide), _, rfl, _, rfl, e, _, _, _, rfl, rfl, SqT.of (S.ex _ _ te), at_of (j := 1) rfl rfl, _, _, rfl, rfl, wide_mul (a := 110) (b := 110) u2 (Nat.lt_of_le_of_lt (by have := sh2_le u b0; have := sh2_pos (t := u) b0; omega) b2) (by decide) (by decide) (by decide), ?_⟩
      refine ⟨rfl, _, rfl, ifF (by rw [decide_eq_true (congrArg V.int (sh_cross u b))]; rfl) ?_⟩
      have p2' := sh2_pos (t := u) b0
      refine ⟨_, rfl, e, _, _, _, rfl, rfl, SqT.of (S.ex _ _ te), at_of (j := 0) rfl rfl, _, rfl, _, rfl, e, _, _, _, rfl, rfl, SqT.of (S.ex _ _ te), at_of (j := 1) rfl rfl, (sh1 u b).natAbs, (sh2 u b).toNat, by rw [abs_eq, Int.toNat_of_nonneg (by omega)]; rfl, rfl, _, rfl, ?_⟩
      refine ifF ?_ ?_
      · have := sh_gcd (t := u) b0
        rw [show (sh2 u b).toNat = (sh2 u b).natAbs by omega, this]
        rfl
      exact ⟨_, _, _, _, _, _, rfl, S.ex, S.dr⟩
    · rintro σ H ⟨v2, v3, v4, v5, v6, A0, rfl, eA, dA⟩
      have S := Sd.here eA dA
      refine ⟨_, _, rfl, rfl, -4, 6, rfl, by decide, Nat.lt_of_lt_of_le (by decide : (6 : Int).natAbs < 2 ^ 3) (Nat.pow_le_pow_right (by decide) (by decide)), fun e he => ?_⟩
      obtain ⟨G, H, eH, S, te, _⟩ := S.nw (.tup [.int (sh1 (-4) 6), .int (sh2 (-4) 6)]) he
      rw [eH]
      refine ⟨_, _, rfl, rfl, (by show 2 ≤ sizeLine; decide), ?_⟩
      dsimp only
      refine fun p hp => ?_
      obtain ⟨G, H, eH, S, tp, x⟩ := S.nw (.tup [.int (0 - 2), .int 3]) hp
      have te := x _ _ te
      have e1 : sh1 (-4) 6 = -2 := by decide
      have e2 : sh2 (-4) 6 = 3 := by decide
      rw [e1, e2] at te
      rw [eH]
      refine ⟨.ref e, .ref p, .tuple [.int (-2), .int 3], _, rfl, S.ex, .tup (SqT.of (S.ex _ _ te)) (.cons (.int _) (.cons (.int _) .nil)), .tup (SqT.of (S.ex _ _ tp)) (.cons (.int _) (.cons (.int _) .nil)), (by show 1 ≤ 3; decide), ⟨(by show 2 ≤ 100000; decide), True.intro, True.intro, True.intro⟩, fun H g => q _⟩
end
end Rt

namespace Rt
open PySem PySem.Spec PyProof.Rows L2
section
variable {P : Program} {w : World} {K : PySem.W.Frag} {mg : Str → Option Value} {base : Heap}
end
theorem all_mk {l : PySem.W.OpenLaw} {w : World} {K : PySem.W.Frag} {h : Heap} {mg : Str → Option Value} {fa : Addr} (X : K.In h) (G : h.Ns mainGlobals mg) (hfa : mg "law" = some (.ref fa))
    {f1 : Addr} {od1 an1 : Option Addr} {sl1 : Array (Option Value)} {oc1 kV1 dc1 pm1 cd1 ct1 : Value}
    (a1 : PySem.W.nsIn K mainGlobals "_law_begin" = some (some (.ref f1)))
    (l1 : K.lookup f1 = some ⟨oc1, od1, .func (PySem.W.fnOf "_law_begin" "_law_begin" (defArgs s_begin) (defBody s_begin) (defScope s_begin) .none kV1 dc1 pm1 an1 cd1 ct1), sl1⟩)
    (c1 : PySem.W.codeIn K cd1 "_law_begin" = true) (k1 : PySem.W.keepIn K (.ref f1) = true)
    {f2 : Addr} {od2 an2 : Option Addr} {sl2 : Array (Option Value)} {oc2 kV2 dc2 pm2 cd2 ct2 : Value}
    (a2 : PySem.W.nsIn K mainGlobals "_law_pick" = some (some (.ref f2)))
    (l2 : K.lookup f2 = some ⟨oc2, od2, .func (PySem.W.fnOf "_law_pick" "_law_pick" (defArgs s_pick) (defBody s_pick) (defScope s_pick) .none kV2 dc2 pm2 an2 cd2 ct2), sl2⟩)
    (c2 : PySem.W.codeIn K cd2 "_law_pick" = true) (k2 : PySem.W.keepIn K (.ref f2) = true)
    {f3 : Addr} {od3 an3 : Option Addr} {sl3 : Array (Option Value)} {oc3 kV3 dc3 pm3 cd3 ct3 : Value}
    (a3 : PySem.W.nsIn K mainGlobals "_law_one" = some (some (.ref f3)))
    (l3 : K.lookup f3 = some ⟨oc3, od3, .func (PySem.W.fnOf "_law_one" "_law_one" (defArgs s_one) (defBody s_one) (defScope s_one) .none kV3 dc3 pm3 an3 cd3 ct3), sl3⟩)
    (c3 : PySem.W.codeIn K cd3 "_law_one" = true) (k3 : PySem.W.keepIn K (.ref f3) = true)
    {f4 : Addr} {od4 an4 : Option Addr} {sl4 : Array (Option Value)} {oc4 kV4 dc4 pm4 cd4 ct4 : Value}
    (a4 : PySem.W.nsIn K mainGlobals "_law_far" = some (some (.ref f4)))
    (l4 : K.lookup f4 = some ⟨oc4, od4, .func (PySem.W.fnOf "_law_far" "_law_far" (defArgs s_far) (defBody s_far) (defScope s_far) .none kV4 dc4 pm4 an4 cd4 ct4), sl4⟩)
    (c4 : PySem.W.codeIn K cd4 "_law_far" = true) (k4 : PySem.W.keepIn K (.ref f4) = true)
    {f5 : Addr} {od5 an5 : Option Addr} {sl5 : Array (Option Value)} {oc5 kV5 dc5 pm5 cd5 ct5 : Value}
    (a5 : PySem.W.nsIn K mainGlobals "_law_same" = some (some (.ref f5)))
    (l5 : K.lookup f5 = some ⟨oc5, od5, .func (PySem.W.fnOf "_law_same" "_law_same" (defArgs s_same) (defBody s_same) (defScope s_same) .none kV5 dc5 pm5 an5 cd5 ct5), sl5⟩)
    (c5 : PySem.W.codeIn K cd5 "_law_same" = true) (k5 : PySem.W.keepIn K (.ref f5) = true)
    {f6 : Addr} {od6 an6 : Option Addr} {sl6 : Array (Option Value)} {oc6 kV6 dc6 pm6 cd6 ct6 : Value}
    (a6 : PySem.W.nsIn K mainGlobals "_law_gcd" = some (some (.ref f6)))
    (l6 : K.lookup f6 = some ⟨oc6, od6, .func (PySem.W.fnOf "_law_gcd" "_law_gcd" (defArgs s_law_gcd) (defBody s_law_gcd) (defScope s_law_gcd) .none kV6 dc6 pm6 an6 cd6 ct6), sl6⟩)
    (c6 : PySem.W.codeIn K cd6 "_law_gcd" = true) (k6 : PySem.W.keepIn K (.ref f6) = true)
    {f7 : Addr} {od7 an7 : Option Addr} {sl7 : Array (Option Value)} {oc7 kV7 dc7 pm7 cd7 ct7 : Value}
    (a7 : PySem.W.nsIn K mainGlobals "_law_share" = some (some (.ref f7)))
    (l7 : K.lookup f7 = some ⟨oc7, od7, .func (PySem.W.fnOf "_law_share" "_law_share" (defArgs s_law_share) (defBody s_law_share) (defScope s_law_share) .none kV7 dc7 pm7 an7 cd7 ct7), sl7⟩)
    (c7 : PySem.W.codeIn K cd7 "_law_share" = true) (k7 : PySem.W.keepIn K (.ref f7) = true)
    {f8 : Addr} {od8 an8 : Option Addr} {sl8 : Array (Option Value)} {oc8 kV8 dc8 pm8 cd8 ct8 : Value}
    (a8 : PySem.W.nsIn K mainGlobals "share" = some (some (.ref f8)))
    (l8 : K.lookup f8 = some ⟨oc8, od8, .func (PySem.W.fnOf "share" "share" (defArgs s_share) (defBody s_share) (defScope s_share) .none kV8 dc8 pm8 an8 cd8 ct8), sl8⟩)
    (c8 : PySem.W.codeIn K cd8 "share" = true) (k8 : PySem.W.keepIn K (.ref f8) = true)
    {f9 : Addr} {od9 an9 : Option Addr} {sl9 : Array (Option Value)} {oc9 kV9 dc9 pm9 cd9 ct9 : Value}
    (a9 : PySem.W.nsIn K mainGlobals "law" = some (some (.ref f9)))
    (l9 : K.lookup f9 = some ⟨oc9, od9, .func (PySem.W.fnOf "law" "law" (defArgs s_law_k21) (defBody s_law_k21) (defScope s_law_k21) .none kV9 dc9 pm9 an9 cd9 ct9), sl9⟩)
    (c9 : PySem.W.codeIn K cd9 "law" = true) (k9 : PySem.W.keepIn K (.ref f9) = true)
    (z_list : PySem.W.nsIn K mainGlobals "list" = some none)
    (z_len : PySem.W.nsIn K mainGlobals "len" = some none)
    (z_range : PySem.W.nsIn K mainGlobals "range" = some none)
    (z_isinstance : PySem.W.nsIn K mainGlobals "isinstance" = some none)
    (z_bool : PySem.W.nsIn K mainGlobals "bool" = some none)
    (z_int : PySem.W.nsIn K mainGlobals "int" = some none)
    (z_str : PySem.W.nsIn K mainGlobals "str" = some none)
    (z_tuple : PySem.W.nsIn K mainGlobals "tuple" = some none)
    (z_all : PySem.W.nsIn K mainGlobals "all" = some none)
    (z_abs : PySem.W.nsIn K mainGlobals "abs" = some none)
    (h_gcd : PySem.W.nsIn K mainGlobals "gcd" = some (some (.builtin "math.gcd")))
    : LamX.LawAtS l w K CX0 5 63 "_law_script" mg fa h := by
  have e := hfa.symm.trans (PySem.W.mg_of X G a9)
  cases e
  have m_list := PySem.W.mg_none_of X G z_list
  have m_len := PySem.W.mg_none_of X G z_len
  have m_range := PySem.W.mg_none_of X G z_range
  have m_isinstance := PySem.W.mg_none_of X G z_isinstance
  have m_bool := PySem.W.mg_none_of X G z_bool
  have m_int := PySem.W.mg_none_of X G z_int
  have m_str := PySem.W.mg_none_of X G z_str
  have m_tuple := PySem.W.mg_none_of X G z_tuple
  have m_all := PySem.W.mg_none_of X G z_all
  have m_abs := PySem.W.mg_none_of X G z_abs
  have F1 := fun_mk (st := s_begin) l1 c1 k1
  have g1 := PySem.W.mg_of X G a1
  have b1 := F1.binds (ps := ["_law_script"]) fun _ _ _ _ _ _ us hl => match us, hl with | [_], _ => rfl
  have F2 := fun_mk (st := s_pick) l2 c2 k2
  have g2 := PySem.W.mg_of X G a2
  have b2 := F2.binds (ps := ["_law_draw", "_law_many"]) fun _ _ _ _ _ _ us hl => match us, hl with | [_, _], _ => rfl
  have F3 := fun_mk (st := s_one) l3 c3 k3
  have g3 := PySem.W.mg_of X G a3
  have b3 := F3.binds (ps := ["_law_draw", "_law_some"]) fun _ _ _ _ _ _ us hl => match us, hl with | [_, _], _ => rfl
  have F4 := fun_mk (st := s_far) l4 c4 k4
  have g4 := PySem.W.mg_of X G a4
  have b4 := F4.binds (ps := ["_law_draw"]) fun _ _ _ _ _ _ us hl => match us, hl with | [_], _ => rfl
  have F5 := fun_mk (st := s_same) l5 c5 k5
  have g5 := PySem.W.mg_of X G a5
  have b5 := F5.binds (ps := ["_law_found", "_law_due"]) fun _ _ _ _ _ _ us hl => match us, hl with | [_, _], _ => rfl
  have F6 := fun_mk (st := s_law_gcd) l6 c6 k6
  have g6 := PySem.W.mg_of X G a6
  have b6 := F6.binds (ps := ["_law_one_here", "_law_other"]) fun _ _ _ _ _ _ us hl => match us, hl with | [_, _], _ => rfl
  have F7 := fun_mk (st := s_law_share) l7 c7 k7
  have g7 := PySem.W.mg_of X G a7
  have b7 := F7.binds (ps := ["_law_top", "_law_bottom"]) fun _ _ _ _ _ _ us hl => match us, hl with | [_, _], _ => rfl
  have F8 := fun_mk (st := s_share) l8 c8 k8
  have g8 := PySem.W.mg_of X G a8
  have b8 := F8.binds (ps := ["top", "bottom"]) fun _ _ _ _ _ _ us hl => match us, hl with | [_, _], _ => rfl
  have F9 := fun_mk (st := s_law_k21) l9 c9 k9
  have g9 := PySem.W.mg_of X G a9
  refine ⟨PySem.W.fnOf "law" "law" (defArgs s_law_k21) (defBody s_law_k21) (defScope s_law_k21) .none kV9 dc9 pm9 an9 cd9 ct9, [], spLaw K, (fun _ h => nomatch h), (fun _ h => nomatch h), (fun _ h => nomatch h), fun s v => .of_eq rfl, fun H a ns hl hbits hT hS => ?hsp, fun base Kb Gb TB => ?_⟩
  case hsp =>
    exact ⟨a, ns, rfl, hS, fun _ => rfl⟩
  have D__law_begin : Def l.prog w K mg base "_law_begin" 1 (spBegin K) := ⟨_, _, _, _, g1, ok_begin (P := l.prog) (w := w) (base := base) F1 m_list, k1, b1, .nil⟩
  have D__law_pick : Def l.prog w K mg base "_law_pick" 1 spPick := ⟨_, _, _, _, g2, ok_pick (P := l.prog) (w := w) (base := base) F2 m_len, k2, b2, .nil⟩
  have D__law_one : Def l.prog w K mg base "_law_one" 2 spOne := ⟨_, _, _, _, g3, ok_one (P := l.prog) (w := w) (base := base) F3 D__law_pick m_len, k3, b3, .nil⟩
  have D__law_far : Def l.prog w K mg base "_law_far" 2 spFar := ⟨_, _, _, _, g4, ok_far (P := l.prog) (w := w) (base := base) F4 D__law_pick, k4, b4, .nil⟩
  have D__law_same : Def l.prog w K mg base "_law_same" 4 (spSame K 3) := ⟨_, _, _, _, g5, ok_same (P := l.prog) (w := w) (base := base) F5 b5 g5 m_isinstance m_bool m_int m_str m_list m_tuple m_len m_all m_range 3, k5, b5, .nil⟩
  have D__law_gcd : Def l.prog w K mg base "_law_gcd" 1 spGcd := ⟨_, _, _, _, g6, ok_law_gcd (P := l.prog) (w := w) (base := base) F6, k6, b6, .nil⟩
  have D__law_share : Def l.prog w K mg base "_law_share" 2 spShare := ⟨_, _, _, _, g7, ok_law_share (P := l.prog) (w := w) (base := base) F7 D__law_gcd m_abs, k7, b7, .nil⟩
  have D_share : Def l.prog w K mg base "share" 1 spShare := ⟨_, _, _, _, g8, ok_share (P := l.prog) (w := w) (base := base) F8 (PySem.W.mg_of X G h_gcd), k8, b8, .nil⟩
  exact ok_law (P := l.prog) (w := w) (base := base) F9 D__law_begin D__law_pick D__law_one D__law_far D__law_gcd D__law_share D_share D__law_same m_range m_abs
end Rt
open PySem PySem.W PyProof.Rows
set_option maxRecDepth 100000 in
set_option maxHeartbeats 0 in
theorem PySem.Challenge.cw_reedtapes_k21_shares_in_lowest_terms_holds : PySem.Challenge.rw_reedtapes_k21_shares_in_lowest_terms.Holds := by
  w_on; o_law; k_head; (case hw => w_witness2)
  k_fill
  refine Rt.walkT (l := PySem.Challenge.rw_reedtapes_k21_shares_in_lowest_terms) (n := 63) (k := 5) (x := "_law_script") (CX := fun _ => L2.CX0) rfl (by decide) rfl ⟨rfl, by decide, by decide⟩ (fun w h Y => PySem.W.kIn_of Y) ?F (fun _ _ _ _ _ h => h)
  case F =>
    intro w mg fa h KX G hmg tabs
    refine' Rt.all_mk KX G hmg ?a1 ?l1 ?c1 ?k1 ?a2 ?l2 ?c2 ?k2 ?a3 ?l3 ?c3 ?k3 ?a4 ?l4 ?c4 ?k4 ?a5 ?l5 ?c5 ?k5 ?a6 ?l6 ?c6 ?k6 ?a7 ?l7 ?c7 ?k7 ?a8 ?l8 ?c8 ?k8 ?a9 ?l9 ?c9 ?k9 ?z_list ?z_len ?z_range ?z_isinstance ?z_bool ?z_int ?z_str ?z_tuple ?z_all ?z_abs ?h_gcd
    (case a1 => k_is)
    (case l1 => k_is)
    (case c1 => k_is)
    (case k1 => k_is)
    (case a2 => k_is)
    (case l2 => k_is)
    (case c2 => k_is)
    (case k2 => k_is)
    (case a3 => k_is)
    (case l3 => k_is)
    (case c3 => k_is)
    (case k3 => k_is)
    (case a4 => k_is)
    (case l4 => k_is)
    (case c4 => k_is)
    (case k4 => k_is)
    (case a5 => k_is)
    (case l5 => k_is)
    (case c5 => k_is)
    (case k5 => k_is)
    (case a6 => k_is)
    (case l6 => k_is)
    (case c6 => k_is)
    (case k6 => k_is)
    (case a7 => k_is)
    (case l7 => k_is)
    (case c7 => k_is)
    (case k7 => k_is)
    (case a8 => k_is)
    (case l8 => k_is)
    (case c8 => k_is)
    (case k8 => k_is)
    (case a9 => k_is)
    (case l9 => k_is)
    (case c9 => k_is)
    (case k9 => k_is)
    (case z_list => k_is)
    (case z_len => k_is)
    (case z_range => k_is)
    (case z_isinstance => k_is)
    (case z_bool => k_is)
    (case z_int => k_is)
    (case z_str => k_is)
    (case z_tuple => k_is)
    (case z_all => k_is)
    (case z_abs => k_is)
    (case h_gcd => k_is)
