import PyProof.Rows.All
import Wide.All
import OpenK.AllK
import Wide.FinOn
import HandS.ForMost
import HandS.ForExc
import HandS.IsInst
import HandS.FStr
import HandS.TryMany
import HandS.ExcInit
import HandS.ExcField
import HandS.ExcIs
import HandS.Codes
import HandS.Defaults
import HandS.SortInts
import KE.KTypeName
import HandS.CallSlots
import HandS.Lambda
import HandS.EndTab
import KE.KNestM
import HandS.EndOwn
import KE.KEqSeq
import HandS.Zip
import HandS.WrittenGet
import HandS.TupAny
import KE.GoesComp
import HandS.FStrTup
import HandS.More
import PySem.Challenge.RW_reedtapes_k06_tracks_later
set_option Elab.async false
set_option linter.all false
set_option maxRecDepth 100000
set_option maxHeartbeats 4000000
namespace Rt
open PySem PySem.Spec PyProof.Rows L2
/-! ### heaps: what was known stays known -/
def Ex (H H' : Hp) : Prop := ∀ b o, H b = some o → H' b = some o
theorem Ex.refl (H : Hp) : Ex H H := fun _ _ h => h
theorem Ex.trans {H H1 H2 : Hp} (a : Ex H H1) (b : Ex H1 H2) : Ex H H2 := fun c o h => b c o (a c o h)
theorem Ex.to {H H' : Hp} {b : Addr} {o : HO} (e : Ex H H') (h : H b = some o) : H' b = some o := e b o h
theorem Ex.seq {K : PySem.W.Frag} {H H' : Hp} {a : Addr} {xs : List V} (e : Ex H H') (h : SqL K H a xs) : SqL K H' a xs := by
  rcases h with (h | ⟨o, h⟩) | h
  · exact .inl (.inl (e _ _ h))
  · exact .inl (.inr ⟨o, e _ _ h⟩)
  · exact .inr h
theorem Ex.new {H : Hp} {p : Addr} {o : HO} (h : H p = none) : Ex H (upd H p o) := fun a u e => by
  rw [upd_ne (ne_of_none e h)]
  exact e
theorem Ex.free {H H' : Hp} {p : Addr} (e : Ex H H') (h : H' p = none) : H p = none := by
  cases q : H p with
  | none => rfl
  | some o =>
    rw [e p o q] at h
    cases h
/-- a step of the heap: H0 what is settled, H all; m: what may be turned -/
structure Go (m : Addr → Prop) (E0 E H0 H : Hp) : Prop where
  up : Ex E0 H0
  inn : Ex H0 H
  new : ∀ b, E b ≠ none → E0 b = none → H0 b = none
  keep : ∀ b o, E b = some o → ¬ m b → H b = some o
  there : ∀ b, E b ≠ none → H b ≠ none
theorem Go.refl {m : Addr → Prop} {H0 H : Hp} (e : Ex H0 H) : Go m H0 H H0 H := ⟨Ex.refl _, e, fun _ _ h => h, fun _ _ h _ => h, fun _ h => h⟩
theorem Go.trans {m m' : Addr → Prop} {E0 E F0 F G0 G : Hp} (a : Go m E0 E F0 F) (b : Go m' F0 F G0 G) (hm : ∀ x, E x ≠ none → m' x → m x) : Go m E0 E G0 G where
  up := a.up.trans b.up
  inn := b.inn
  new := fun x h1 h2 => b.new x (a.there x h1) (a.new x h1 h2)
  keep := fun x o h n => b.keep x o (a.keep x o h n) fun z => n (hm x (by rw [h]; simp) z)
  there := fun x h => b.there x (a.there x h)
/-- the same, what may be turned being alike -/
theorem Go.then {m : Addr → Prop} {E0 E F0 F G0 G : Hp} (a : Go m E0 E F0 F) (b : Go m F0 F G0 G) : Go m E0 E G0 G := a.trans b fun _ _ h => h
/-- a new object, not settled -/
theorem Go.lay {m : Addr → Prop} {E0 E H0 H : Hp} {p : Addr} (o : HO) (a : Go m E0 E H0 H) (h : H p = none) : Go m E0 E H0 (upd H p o) where
  up := a.up
  inn := a.inn.trans (Ex.new h)
  new := a.new
  keep := fun x u q n => by
    rw [upd_ne (ne_of_none (a.keep x u q n) h)]
    exact a.keep x u q n
  there := fun x q => by
    by_cases e : x = p
    · rw [e, upd_same]; simp
    · rw [upd_ne e]; exact a.there x q
/-- a new object that is not known at the entry is turned -/
theorem Go.turn {m : Addr → Prop} {E0 E H0 H : Hp} {p : Addr} (o : HO) (a : Go m E0 E H0 H) (h : E p = none) (h0 : H0 p = none) : Go m E0 E H0 (upd H p o) where
  up := a.up
  inn := fun x u q => by
    rw [upd_ne (ne_of_none q h0)]
    exact a.inn x u q
  new := a.new
  keep := fun x u q n => by
    rw [upd_ne (ne_of_none q h)]
    exact a.keep x u q n
  there := fun x q => by
    by_cases e : x = p
    · rw [e, upd_same]; simp
    · rw [upd_ne e]; exact a.there x q
/-- what may be turned is turned -/
theorem Go.turnM {m : Addr → Prop} {E0 E H0 H : Hp} {p : Addr} (o : HO) (a : Go m E0 E H0 H) (h : m p) (h0 : H0 p = none) : Go m E0 E H0 (upd H p o) where
  up := a.up
  inn := fun x u q => by
    rw [upd_ne (ne_of_none q h0)]
    exact a.inn x u q
  new := a.new
  keep := fun x u q n => by
    have e : x ≠ p := fun z => n (z ▸ h)
    rw [upd_ne e]
    exact a.keep x u q n
  there := fun x q => by
    by_cases e : x = p
    · rw [e, upd_same]; simp
    · rw [upd_ne e]; exact a.there x q
/-- it is settled -/
theorem Go.set {m : Addr → Prop} {E0 E H0 H : Hp} {p : Addr} {o : HO} (a : Go m E0 E H0 H) (h : E p = none) (hp : H p = some o) (h0 : H0 p = none) : Go m E0 E (upd H0 p o) H where
  up := a.up.trans (Ex.new h0)
  inn := fun x u q => by
    by_cases e : x = p
    · rw [e, upd_same] at q
      rw [e, hp, q]
    · rw [upd_ne e] at q
      exact a.inn x u q
  new := fun x q r => by
    have e : x ≠ p := fun z => q (z ▸ h)
    rw [upd_ne e]
    exact a.new x q r
  keep := a.keep
  there := a.there
/-- a new object that is settled at once -/
theorem Go.put {m : Addr → Prop} {E0 E H0 H : Hp} {p : Addr} (o : HO) (a : Go m E0 E H0 H) (h : H p = none) : Go m E0 E (upd H0 p o) (upd H p o) := by
  have hE : E p = none := by
    cases q : E p with
    | none => rfl
    | some u => exact absurd h (a.there p (by rw [q]; simp))
  exact (a.lay o h).set hE upd_same (a.inn.free h)
theorem Go.mono {m m' : Addr → Prop} {E0 E H0 H : Hp} (a : Go m E0 E H0 H) (h : ∀ x, m x → m' x) : Go m' E0 E H0 H := ⟨a.up, a.inn, a.new, fun b o q n => a.keep b o q fun z => n (h b z), a.there⟩
/-- fresh now: fresh at the entry, and unsettled -/
theorem Go.fresh {m : Addr → Prop} {E0 E H0 H : Hp} {p : Addr} (a : Go m E0 E H0 H) (h : H p = none) : E p = none := by
  cases q : E p with
  | none => rfl
  | some u => exact absurd h (a.there p (by rw [q]; simp))
theorem Go.fresh0 {m : Addr → Prop} {E0 E H0 H : Hp} {p : Addr} (a : Go m E0 E H0 H) (h : H p = none) : H0 p = none := a.inn.free h
/-! ### the drawing's list -/
structure Dr (H0 H : Hp) (d : Addr) : Prop where
  ex : ∃ (a : Addr) (ns : List Int) (i j k l : Int), H d = some (.lst [.ref a, .int i, .int j, .int k, .int l]) ∧ H0 a = some (.lst (ns.map V.int)) ∧ 0 ≤ i ∧ 0 ≤ j ∧ 0 ≤ k ∧ k < 2000000000
  out : H0 d = none
theorem Dr.mono {H0 H H0' : Hp} {d : Addr} (x : Dr H0 H d) (e : Ex H0 H0') (n : H0' d = none) : Dr H0' H d := by
  obtain ⟨⟨a, ns, i, j, k, l, h1, h2, h3⟩, _⟩ := x
  exact ⟨⟨a, ns, i, j, k, l, h1, e _ _ h2, h3⟩, n⟩
theorem Dr.known {H0 H : Hp} {d : Addr} (x : Dr H0 H d) : H d ≠ none := by
  obtain ⟨⟨a, ns, i, j, k, l, h1, _⟩, _⟩ := x
  rw [h1]; simp
/-- a pure step leaves the drawing -/
theorem Dr.go {m : Addr → Prop} {H0 H H0' H' : Hp} {d : Addr} (x : Dr H0 H d) (g : Go m H0 H H0' H') (n : ¬ m d) : Dr H0' H' d := by
  have k := x.known
  obtain ⟨⟨a, ns, i, j, k', l, h1, h2, h3⟩, o⟩ := x
  exact ⟨⟨a, ns, i, j, k', l, g.keep _ _ h1 n, g.up _ _ h2, h3⟩, g.new d k o⟩
theorem Dr.lay {H0 H : Hp} {d p : Addr} (o : HO) (x : Dr H0 H d) (h : H p = none) : Dr H0 (upd H p o) d := by
  have k := x.known
  obtain ⟨⟨a, ns, i, j, k', l, h1, h2⟩, n⟩ := x
  exact ⟨⟨a, ns, i, j, k', l, by rw [upd_ne (ne_of_none h1 h)]; exact h1, h2⟩, n⟩
theorem Dr.turn {H0 H : Hp} {d p : Addr} (o : HO) (x : Dr H0 H d) (h : d ≠ p) : Dr H0 (upd H p o) d := by
  obtain ⟨⟨a, ns, i, j, k', l, h1, h2⟩, n⟩ := x
  exact ⟨⟨a, ns, i, j, k', l, by rw [upd_ne h]; exact h1, h2⟩, n⟩
theorem Dr.set {H0 H : Hp} {d p : Addr} (o : HO) (x : Dr H0 H d) (h0 : H0 p = none) (h : d ≠ p) : Dr (upd H0 p o) H d := x.mono (Ex.new h0) (by rw [upd_ne h]; exact x.out)
theorem Dr.ne {H0 H : Hp} {d p : Addr} (x : Dr H0 H d) (h : H p = none) : d ≠ p := fun z => x.known (z ▸ h)
theorem Ex.lay {H0 H : Hp} {p : Addr} (o : HO) (e : Ex H0 H) (h : H p = none) : Ex H0 (upd H p o) := e.trans (Ex.new h)
theorem Ex.turn {H0 H : Hp} {p : Addr} (o : HO) (e : Ex H0 H) (h : H0 p = none) : Ex H0 (upd H p o) := fun x u q => by
  rw [upd_ne (ne_of_none q h)]
  exact e x u q
theorem Ex.set {H0 H : Hp} {p : Addr} {o : HO} (e : Ex H0 H) (h : H p = some o) : Ex (upd H0 p o) H := fun x u q => by
  by_cases z : x = p
  · rw [z, upd_same] at q
    rw [z, h, q]
  · rw [upd_ne z] at q
    exact e x u q
/-- where a drawing def stands: A0, A at its entry, H0, H now -/
structure Sd (d : Addr) (A0 A H0 H : Hp) : Prop where
  go : Go (· = d) A0 A H0 H
  dr : Dr H0 H d
theorem Sd.ex {d : Addr} {A0 A H0 H : Hp} (S : Sd d A0 A H0 H) : Ex H0 H := S.go.inn
theorem Sd.here {d : Addr} {H0 H : Hp} (e : Ex H0 H) (x : Dr H0 H d) : Sd d H0 H H0 H := ⟨Go.refl e, x⟩
theorem Sd.call {d : Addr} {A0 A H0 H H0' H' : Hp} (S : Sd d A0 A H0 H) (g : Go (· = d) H0 H H0' H') (x : Dr H0' H' d) : Sd d A0 A H0' H' := ⟨S.go.then g, x⟩
theorem Sd.pure {d : Addr} {A0 A H0 H H0' H' : Hp} (S : Sd d A0 A H0 H) (g : Go (fun _ => False) H0 H H0' H') : Sd d A0 A H0' H' := ⟨S.go.trans g fun _ _ z => z.elim, S.dr.go g fun z => z⟩
theorem Sd.put {d p : Addr} {A0 A H0 H : Hp} (o : HO) (S : Sd d A0 A H0 H) (h : H p = none) : Sd d A0 A (upd H0 p o) (upd H p o) := ⟨S.go.put o h, (S.dr.lay o h).set o (S.ex.free h) (S.dr.ne h)⟩
theorem Sd.lay {d p : Addr} {A0 A H0 H : Hp} (o : HO) (S : Sd d A0 A H0 H) (h : H p = none) : Sd d A0 A H0 (upd H p o) := ⟨S.go.lay o h, S.dr.lay o h⟩
theorem Sd.turn {d p : Addr} {A0 A H0 H : Hp} (o : HO) (S : Sd d A0 A H0 H) (h : A p = none) (h0 : H0 p = none) (n : d ≠ p) : Sd d A0 A H0 (upd H p o) := ⟨S.go.turn o h h0, S.dr.turn o n⟩
theorem Sd.set {d p : Addr} {A0 A H0 H : Hp} {o : HO} (S : Sd d A0 A H0 H) (h : A p = none) (hp : H p = some o) (h0 : H0 p = none) (n : d ≠ p) : Sd d A0 A (upd H0 p o) H := ⟨S.go.set h hp h0, S.dr.set o h0 n⟩
/-! ### a def of the text, called by its name; dvs: the defaults that fill up -/
structure Def (P : Program) (w : World) (K : PySem.W.Frag) (mg : Str → Option Value) (base : Heap) (x : Str) (k : Nat) (sp : Sp) (dvs : List V := []) : Prop where
  ex : ∃ (f : Addr) (fd : FuncData) (ps : List Str) (ds : List Value), mg x = some (.ref f) ∧ FnOk P w K mg base CX0 k f fd ps sp ∧ PySem.W.keepIn K (.ref f) = true ∧ Binds K fd ps ds ∧ Vals dvs ds
section
variable {X : Cx} {x : Str} {p pos : Pos} {e : Expr} {es : List Expr} {t : TA} {k : Nat} {sp : Sp} {dvs : List V}
theorem pe_d (D : Def X.prog X.w X.K X.mg X.base x k sp dvs) (hr : Room k X.A) (hg : Gl X x) (ha : PA X (e :: es) t) (hdb : (x == ("__debug__" : Str)) = false := by decide)
    (he : starEach (e :: es) X.env = (false, eval e X.env) :: starEach es X.env := by rfl) (hpl : (backTo pos (starEach es X.env)).any (·.1) = false := by rfl) :
    PE X (.Call (.Name x p) (e :: es) [] pos) (tCall sp dvs E0 t) := by
  obtain ⟨f, fd, ps, ds, h1, h2, h3, h4, h5⟩ := D.ex
  exact pe_call h2 hr hg h1 h3 h4 h5 pass0 ha hdb he hpl
theorem pe_d0 (D : Def X.prog X.w X.K X.mg X.base x k sp dvs) (hr : Room k X.A) (hg : Gl X x) (hdb : (x == ("__debug__" : Str)) = false := by decide) :
    PE X (.Call (.Name x p) [] [] pos) (tCall sp dvs E0 tNil) := by
  obtain ⟨f, fd, ps, ds, h1, h2, h3, h4, h5⟩ := D.ex
  exact pe_call0 h2 hr hg h1 h3 h4 h5 pass0 hdb
end
section
variable {P : Program} {w : World} {K : PySem.W.Frag} {mg : Str → Option Value} {base : Heap} {x qual : Str} {params : Arguments} {body : List Stmt} {scope : Scope} {dvs : List V} {kws : List (Str × V)} {f : Addr} {fd : FuncData}
/-- a def with defaults that lets nothing out -/
theorem okD0 {N ps : List Str} {k : Nat} {sp : Sp} (F : FunD K x qual params body scope dvs kws f fd) (S : FnScope N ps scope) (len : ∀ vs H Q E, sp vs H Q E → vs.length = ps.length)
    (hbody : ∀ (cdv : Value) (A : Around) (outer : List Env) (s : Shared) (H : Hp) (vs : List V) (Q : VK) (E : XK), Room k (A.deeper (envOfC qual scope s.heap.objs.size f cdv)) → sp vs H Q E →
      ∃ t, PSs (cxOf CX0 P w K mg base N qual scope f cdv A outer s H E).nox body t ∧ t { nx := fun _ H' => Q .non H', rt := Q } (start N vs) H) : FnOk P w K mg base CX0 (k + 1) f fd ps sp :=
  F.ok S len fun cdv A outer s H vs Q E hr hsp =>
    let ⟨t, h, q⟩ := hbody cdv A outer s H vs Q E hr hsp
    ⟨t, h.nox, q⟩
end
/-! ### numbers as rows of bytes -/
def gtl (r : Nat) : List Nat := if h : r = 0 then [] else (128 + r % 128) :: gtl (r / 128)
termination_by r
decreasing_by omega
theorem gtl0 : gtl 0 = [] := by rw [gtl]; rfl
theorem gtl1 {r : Nat} (h : r ≠ 0) : gtl r = (128 + r % 128) :: gtl (r / 128) := by
  rw [gtl, dif_neg h]
def gapB (n : Nat) : List Nat := ((n % 128) :: gtl (n / 128)).reverse
def val (l : List Nat) : Nat := l.foldl (fun t b => t * 128 + b % 128) 0
theorem val_snoc (l : List Nat) (b : Nat) : val (l ++ [b]) = val l * 128 + b % 128 := by
  unfold val
  rw [List.foldl_append]
  rfl
theorem val_gtl (r : Nat) : val (gtl r).reverse = r := by
  induction r using Nat.strongRecOn with
  | _ r ih =>
    by_cases h : r = 0
    · subst h
      rw [gtl0]
      rfl
    · rw [gtl1 h, List.reverse_cons, val_snoc, ih (r / 128) (by omega)]
      omega
theorem gapB_eq (n : Nat) : gapB n = (gtl (n / 128)).reverse ++ [n % 128] := by
  unfold gapB
  rw [List.reverse_cons]
theorem val_gapB (n : Nat) : val (gapB n) = n := by
  rw [gapB_eq, val_snoc, val_gtl]
  omega
theorem gtl_len : ∀ (k r : Nat), r < 128 ^ k → (gtl r).length ≤ k
  | 0, r, h => by
    have e : r = 0 := by omega
    subst e
    rw [gtl0]
    exact Nat.zero_le _
  | k + 1, r, h => by
    by_cases z : r = 0
    · subst z
      rw [gtl0]
      exact Nat.zero_le _
    · rw [gtl1 z, List.length_cons]
      have := gtl_len k (r / 128) (by rw [Nat.pow_succ] at h; omega)
      omega
theorem gapB_len {n : Nat} (h : n < 268435456) : (gapB n).length ≤ 4 := by
  rw [gapB_eq, List.length_append, List.length_reverse]
  have := gtl_len 3 (n / 128) (by omega)
  show (gtl (n / 128)).length + 1 ≤ 4
  omega
theorem gapB_pos (n : Nat) : 0 < (gapB n).length := by
  rw [gapB_eq, List.length_append]
  show 0 < _ + 1
  omega
theorem gtl_mono (a b : Nat) (h : a ≤ b) : (gtl a).length ≤ (gtl b).length := by
  induction b using Nat.strongRecOn generalizing a with
  | _ b ih =>
    by_cases z : a = 0
    · subst z
      rw [gtl0]
      exact Nat.zero_le _
    · rw [gtl1 z, gtl1 (show b ≠ 0 by omega), List.length_cons, List.length_cons]
      have := ih (b / 128) (by omega) (a / 128) (by omega)
      omega
theorem gapB_mono {a b : Nat} (h : a ≤ b) : (gapB a).length ≤ (gapB b).length := by
  rw [gapB_eq, gapB_eq, List.length_append, List.length_append, List.length_reverse, List.length_reverse]
  have := gtl_mono (a / 128) (b / 128) (by omega)
  exact Nat.add_le_add_right this _
theorem gtl_big (r b : Nat) (h : b ∈ gtl r) : 128 ≤ b ∧ b < 256 := by
  induction r using Nat.strongRecOn with
  | _ r ih =>
    by_cases z : r = 0
    · subst z
      rw [gtl0] at h
      cases h
    · rw [gtl1 z] at h
      rcases List.mem_cons.mp h with e | e
      · omega
      · exact ih (r / 128) (by omega) e
theorem gtl_last (r b : Nat) (h : (gtl r).getLast? = some b) : b ≠ 128 := by
  induction r using Nat.strongRecOn with
  | _ r ih =>
    by_cases z : r = 0
    · subst z
      rw [gtl0] at h
      cases h
    · rw [gtl1 z] at h
      by_cases z2 : r / 128 = 0
      · rw [z2, gtl0] at h
        have e : 128 + r % 128 = b := Option.some.inj h
        omega
      · rw [List.getLast?_cons] at h
        cases q : (gtl (r / 128)).getLast? with
        | none =>
          rw [gtl1 z2] at q
          simp at q
        | some c =>
          rw [q] at h
          have e : c = b := Option.some.inj h
          subst e
          exact ih (r / 128) (by omega) q
theorem gapB_all (n b : Nat) (h : b ∈ gapB n) : b < 256 := by
  rw [gapB_eq] at h
  rcases List.mem_append.mp h with e | e
  · exact (gtl_big _ _ (List.mem_reverse.mp e)).2
  · have : b = n % 128 := by simpa using e
    omega
theorem gapB_head {n b : Nat} (h : (gapB n)[0]? = some b) (hb : 128 ≤ b) : b ≠ 128 := by
  rw [gapB_eq] at h
  cases q : (gtl (n / 128)).reverse with
  | nil =>
    rw [q] at h
    have e : n % 128 = b := Option.some.inj h
    omega
  | cons c l =>
    rw [q] at h
    have e : c = b := Option.some.inj h
    subst e
    refine gtl_last (n / 128) c ?_
    have z : gtl (n / 128) = l.reverse ++ [c] := by
      have := congrArg List.reverse q
      rw [List.reverse_reverse, List.reverse_cons] at this
      exact this
    rw [z]
    simp
theorem gapB_mid {n i b : Nat} (h : (gapB n)[i]? = some b) (hi : i + 1 < (gapB n).length) : 128 ≤ b := by
  rw [gapB_eq] at h hi
  rw [List.length_append] at hi
  have hi' : i < (gtl (n / 128)).reverse.length := by
    have : i + 1 < (gtl (n / 128)).reverse.length + 1 := hi
    omega
  rw [List.getElem?_append_left hi'] at h
  exact (gtl_big _ _ (List.mem_reverse.mp (List.mem_of_getElem? h))).1
theorem gapB_end {n i b : Nat} (h : (gapB n)[i]? = some b) (hi : i + 1 = (gapB n).length) : b < 128 := by
  rw [gapB_eq] at h hi
  rw [List.length_append] at hi
  have e : i = (gtl (n / 128)).reverse.length := by
    have : i + 1 = (gtl (n / 128)).reverse.length + 1 := hi
    omega
  subst e
  rw [List.getElem?_append_right (Nat.le_refl _), Nat.sub_self] at h
  have e : n % 128 = b := Option.some.inj h
  omega
theorem flat_len : ∀ (l : List Nat), (∀ n ∈ l, n < 268435456) → (l.flatMap gapB).length ≤ 4 * l.length
  | [], _ => Nat.zero_le _
  | n :: l, h => by
    have h1 := flat_len l fun m hm => h m (List.mem_cons_of_mem _ hm)
    have h2 := gapB_len (h n (List.mem_cons_self ..))
    rw [List.flatMap_cons, List.length_append, List.length_cons]
    omega
def nums (l : List Nat) : List V := l.map fun (n : Nat) => V.int (n : Int)
theorem nums_snoc (l : List Nat) (b : Nat) : nums (l ++ [b]) = nums l ++ [.int (b : Int)] := by
  unfold nums
  rw [List.map_append]
  rfl
theorem nums_len (l : List Nat) : (nums l).length = l.length := by
  unfold nums
  rw [List.length_map]
theorem nums_at {l : List Nat} {i b : Nat} (h : l[i]? = some b) : (nums l)[i]? = some (.int (b : Int)) := by
  unfold nums
  rw [List.getElem?_map, h]
  rfl
theorem nums_app (l r : List Nat) : nums (l ++ r) = nums l ++ nums r := by
  unfold nums
  rw [List.map_append]
theorem nums_eq (l : List Nat) : nums l = (l.map fun (n : Nat) => (n : Int)).map V.int := by
  unfold nums
  rw [List.map_map]
  rfl
theorem nums_inv {l : List Nat} {i : Nat} {y : V} (h : (nums l)[i]? = some y) : ∃ b, l[i]? = some b ∧ y = .int (b : Int) := by
  unfold nums at h
  rw [List.getElem?_map] at h
  cases e : l[i]? with
  | none => rw [e] at h; cases h
  | some x => rw [e] at h; exact ⟨x, rfl, (Option.some.inj h).symm⟩
/-! ### names of the language -/
theorem bt_isinstance : bootBuiltins ("isinstance" : Str) = some (.builtin "isinstance") := by decide +kernel
theorem bt_all : bootBuiltins ("all" : Str) = some (.builtin "all") := by decide +kernel
theorem bt_any : bootBuiltins ("any" : Str) = some (.builtin "any") := by decide +kernel
theorem bt_sum : bootBuiltins ("sum" : Str) = some (.builtin "sum") := by decide +kernel
theorem bt_sorted : bootBuiltins ("sorted" : Str) = some (.builtin "sorted") := by decide +kernel
theorem bt_min : bootBuiltins ("min" : Str) = some (.builtin "min") := by decide +kernel
theorem bt_max : bootBuiltins ("max" : Str) = some (.builtin "max") := by decide +kernel
theorem bt_ord : bootBuiltins ("ord" : Str) = some (.builtin "ord") := by decide +kernel
theorem bt_abs : bootBuiltins ("abs" : Str) = some (.builtin "abs") := by decide +kernel
theorem bt_chr : bootBuiltins ("chr" : Str) = some (.builtin "chr") := by decide +kernel
theorem bt_list : bootBuiltins ("list" : Str) = some (.type "list") := by decide +kernel
theorem bt_tuple : bootBuiltins ("tuple" : Str) = some (.type "tuple") := by decide +kernel
theorem bt_int : bootBuiltins ("int" : Str) = some (.type "int") := by decide +kernel
theorem bt_str : bootBuiltins ("str" : Str) = some (.type "str") := by decide +kernel
theorem bt_bool : bootBuiltins ("bool" : Str) = some (.type "bool") := by decide +kernel
theorem bt_dict : bootBuiltins ("dict" : Str) = some (.type "dict") := by decide +kernel
def rLenQ (K : PySem.W.Frag) : List V → Hp → VK → Prop := fun xs H Q => ∃ p ys, xs = [.ref p] ∧ (SqL K H p ys ∨ SqT K H p ys) ∧ Q (.int ys.length) H
theorem call_lenQ {X : Cx} : CallR X (.builtin "len") (rLenQ X.K) := call_len_seq
theorem map_ref {ps : List Addr} {i : Nat} {x : Addr} (h : ps[i]? = some x) : (ps.map V.ref)[i]? = some (.ref x) := by
  rw [List.getElem?_map, h]
  rfl
theorem any_rep (n : Nat) : (List.replicate n false).any id = false := by
  induction n with
  | zero => rfl
  | succ k ih => rw [List.replicate_succ, List.any_cons, ih]; rfl
theorem all_rep (n : Nat) : (List.replicate n true).all id = true := by
  induction n with
  | zero => rfl
  | succ k ih => rw [List.replicate_succ, List.all_cons, ih]; rfl
/-- gap_bytes of a number within its bounds: a new list -/
def spGapBytes : Sp := fun vs H Q _ => ∃ (n : Nat) (H0 : Hp), vs = [.int (n : Int)] ∧ n < 268435456 ∧ Ex H0 H ∧
  ∀ (p : Addr) (H' : Hp), Go (fun _ => False) H0 H H0 H' → H p = none → H' p = some (.lst (nums (gapB n))) → Q (.ref p) H'
theorem str_len (a b : Str) : (a ++ b).length = a.length + b.length := by
  first
    | exact PySem.strLen_append a b
    | exact PySem.Str.length_append a b
theorem log_small {n : Nat} (h : n < 10 ^ 40) : n.log2 < 1920 := by
  by_cases z : n = 0
  · subst z
    decide
  · rw [Nat.log2_lt z]
    exact Nat.lt_of_lt_of_le h (Nat.le_trans (show 10 ^ 40 ≤ 2 ^ 160 by decide) (Nat.pow_le_pow_right (by decide) (by decide)))
theorem txt_sz {a : Str} {i : Int} (ha : a.length ≤ 1000) (h : i.natAbs < 10 ^ 40) : (a ++ (toString i : String)).length ≤ 3000 := by
  have h2 := PyProof.Rows.int_text_len_1921 (log_small h)
  rw [str_len]
  have : (PySem.Str.ofString (toString i)).length ≤ 1921 := h2
  omega
/-! ### data that stand in a heap -/
theorem Ex.tup {K : PySem.W.Frag} {H H' : Hp} {a : Addr} {xs : List V} (e : Ex H H') (h : SqT K H a xs) : SqT K H' a xs := by
  rcases h with (h | ⟨o, h⟩) | h
  · exact .inl (.inl (e _ _ h))
  · exact .inl (.inr ⟨o, e _ _ h⟩)
  · exact .inr h
mutual
theorem dp_up {K : PySem.W.Frag} {H H' : Hp} (e : Ex H H') : ∀ (d : PyData) (v : V), Dp K H v d → Dp K H' v d
  | .none, _, h => by cases h; exact .non
  | .bool b, _, h => by cases h; exact .bl b
  | .int i, _, h => by cases h; exact .int i
  | .str x, _, h => by cases h; exact .str x
  | .list ds, _, h => by
    cases h with
    | lst hs ha => exact .lst (e.seq hs) (dpa_up e ds _ ha)
  | .tuple ds, _, h => by
    cases h with
    | tup hs ha => exact .tup (e.tup hs) (dpa_up e ds _ ha)
  | .dict _, _, h => by cases h
theorem dpa_up {K : PySem.W.Frag} {H H' : Hp} (e : Ex H H') : ∀ (ds : List PyData) (vs : List V), DpAll K H vs ds → DpAll K H' vs ds
  | [], _, h => by cases h; exact .nil
  | d :: ds, _, h => by
    cases h with
    | cons h1 h2 => exact .cons (dp_up e d _ h1) (dpa_up e ds _ h2)
end
theorem dpa_len {K : PySem.W.Frag} {H : Hp} : ∀ {ds : List PyData} {vs : List V}, DpAll K H vs ds → vs.length = ds.length
  | [], _, h => by cases h; rfl
  | d :: ds, _, h => by
    cases h with
    | cons h1 h2 => exact congrArg Nat.succ (dpa_len h2)
theorem dpa_at {K : PySem.W.Frag} {H : Hp} : ∀ (ds : List PyData) (vs : List V) (i : Nat) (d : PyData), DpAll K H vs ds → ds[i]? = some d → ∃ v, vs[i]? = some v ∧ Dp K H v d
  | [], _, _, _, _, h => by simp at h
  | d :: ds, _, 0, d', h, e => by
    cases h with
    | cons h1 h2 =>
      have e := Option.some.inj e
      subst e
      exact ⟨_, rfl, h1⟩
  | d :: ds, _, i + 1, d', h, e => by
    cases h with
    | cons h1 h2 =>
      obtain ⟨v, e1, e2⟩ := dpa_at ds _ i d' h2 e
      exact ⟨v, e1, e2⟩
theorem dep_at : ∀ {ds : List PyData} {i : Nat} {d : PyData}, ds[i]? = some d → d.depth ≤ PyData.depthAll ds
  | [], _, _, e => by simp at e
  | d :: ds, 0, d', e => by
    have e := Option.some.inj e
    subst e
    exact Nat.le_max_left _ _
  | d :: ds, i + 1, d', e => Nat.le_trans (dep_at (ds := ds) e) (Nat.le_max_right _ _)
mutual
/-- no list in it is longer than 100000 -/
def smA : PyData → Prop
  | .list xs => xs.length ≤ 100000 ∧ smAll xs
  | .tuple xs => xs.length ≤ 100000 ∧ smAll xs
  | .dict _ => False
  | .none => True
  | .bool _ => True
  | .int _ => True
  | .str _ => True
def smAll : List PyData → Prop
  | [] => True
  | x :: xs => smA x ∧ smAll xs
end
theorem sm_at : ∀ {ds : List PyData} {i : Nat} {d : PyData}, smAll ds → ds[i]? = some d → smA d
  | [], _, _, _, e => by simp at e
  | d :: ds, 0, d', h, e => by
    have e := Option.some.inj e
    subst e
    exact h.1
  | d :: ds, i + 1, d', h, e => sm_at (ds := ds) h.2 e
theorem tyL {K : PySem.W.Frag} {H : Hp} {a : Addr} {xs : List V} (h : SqL K H a xs) : TyX K H (.ref a) (.type "list") := by
  rcases h with (h | ⟨o, h⟩) | ⟨o, its, n, h1, h2, _⟩
  · exact .base (.lst h)
  · exact .base (.frz h)
  · exact .kList h1 h2
theorem tyT {K : PySem.W.Frag} {H : Hp} {a : Addr} {xs : List V} (h : SqT K H a xs) : TyX K H (.ref a) (.type "tuple") := by
  rcases h with (h | ⟨o, h⟩) | ⟨o, its, n, h1, h2, _⟩
  · exact .base (.tup h)
  · exact .fTuple h
  · exact .kTuple h1 h2
/-- the type of a datum -/
def tyOf : PyData → String
  | .none => "NoneType"
  | .bool _ => "bool"
  | .int _ => "int"
  | .str _ => "str"
  | .list _ => "list"
  | .tuple _ => "tuple"
  | .dict _ => "dict"
theorem tyD {K : PySem.W.Frag} {H : Hp} {v : V} {d : PyData} (h : Dp K H v d) : TyX K H v (.type (tyOf d)) := by
  cases h with
  | non => exact .base .non
  | bl b => exact .base (.bl b)
  | int i => exact .base (.int i)
  | str x => exact .base (.str x)
  | lst hs _ => exact tyL hs
  | tup hs _ => exact tyT hs
theorem pe_nev {X : Cx} {e : Expr} : PE X e (fun _ _ _ => False) := ⟨fun _ _ _ _ _ _ h => h.elim⟩
theorem go_ex {H0 H H0' H' : Hp} (g : Go (fun _ => False) H0 H H0' H') : Ex H H' := fun b o h => g.keep b o h fun z => z
/-! ### ifs -/
theorem ifT {c : Bool} {A B : Prop} (hc : c = true) (h : A) : if c = true then A else B := by
  rw [if_pos hc]
  exact h
theorem ifF {c : Bool} {A B : Prop} (hc : c = false) (h : B) : if c = true then A else B := by
  rw [hc, if_neg Bool.false_ne_true]
  exact h
theorem ifD {c : Prop} [Decidable c] {A B : Prop} (h1 : c → A) (h2 : ¬ c → B) : if decide c = true then A else B := by
  by_cases h : c
  · exact ifT (decide_eq_true h) (h1 h)
  · exact ifF (decide_eq_false h) (h2 h)
theorem mem_sz {n : Nat} (h : n ≤ 1000000) : n ≤ sizeLine := Nat.le_trans h (by rw [sizeLine_eq]; decide)
theorem mem_lt {n : Nat} (h : n ≤ 1000000) : n < sizeLine := Nat.lt_of_le_of_lt h (by rw [sizeLine_eq]; decide)
theorem map_int {ns : List Int} {i : Nat} {x : Int} (h : ns[i]? = some x) : (ns.map V.int)[i]? = some (.int x) := by
  rw [List.getElem?_map, h]
  rfl
theorem map_int_inv {ns : List Int} {i : Nat} {y : V} (h : (ns.map V.int)[i]? = some y) : ∃ x, ns[i]? = some x ∧ y = .int x := by
  rw [List.getElem?_map] at h
  cases e : ns[i]? with
  | none => rw [e] at h; cases h
  | some x => rw [e] at h; exact ⟨x, rfl, (Option.some.inj h).symm⟩
end Rt

namespace Rt
open PySem PySem.Spec PySem.W PySem.Calls PyProof.Rows Builtin Builtin.ObjectAttr Builtin.Getset_descriptor
/-- the class at C bears the name z -/
structure Nmd (K : PySem.W.Frag) (C : Addr) (z : Str) : Prop where
  rd : PySem.W.readsIn K C (.type "type") = true
  fc : PySem.W.findCls K (.ref C) (.type "type") "__name__" = some (.get (.builtin "getset_descriptor.__get__") (.builtin "type.__name__") (.ref C) (.type "type"))
  ty : PySem.W.typeIn K (.ref C) = some (.type "type")
  nm : ∃ o tk, K.lookup C = some o ∧ (o.slots[2]?).join = some (.str z tk)
section
variable {prog : Program} {w : World} {A : Around} {E : Value → Shared → Prop} {s : Shared} {K : PySem.W.Frag} {R : Result → Shared → Prop}
theorem name_dga (d tp : Value) (C : Addr) : descrGetArgs ⟨[d, .ref C, tp], []⟩ = pure (d, some (.ref C), given tp) := by kernel_rfl
theorem name_get {C : Addr} {z : Str} {tp : Value} (X : K.In s.heap) (N : Nmd K C z) (h : ∀ tk, R (.ok (.ret (.str z tk))) s) :
    codeAny (model prog w) A (.call (.builtin "getset_descriptor.__get__") ⟨[.builtin "type.__name__", .ref C, tp], []⟩) R s := by
  obtain ⟨o, tk, hC, hz⟩ := N.nm
  obtain ⟨hh, g, dr, t, os⟩ := s
  have L0 : PySem.W.Looks (model prog w) hh (typeOf (.ref C)) (.type "type") := looks_typeIn X N.ty
  have L1 : PySem.W.Looks (model prog w) hh (isSubtype (.type "type") (.type "type")) true := Looks.of_pure (by rw [isSubtype_type]; kernel_rfl)
  have hget : hh.get? C = some o := X _ _ hC
  refine codeAny_call_builtin KF.slot_gs.plain KF.entry_gs (KF.slot_gs.check _ _ _ _ _ _ _ _ ktyn_type (KF.args_gs _ _ _) ?_)
  unfold Builtin.«getset_descriptor.__get__» descrGet
  rw [name_dga]
  refine wpAny_bind (wpAny_pure ?_)
  unfold descrGetter descrCheckInstance descrNameAndClass isInstance
  simp only [ktyn_owner]
  repeat lk
  refine ⟨Code.quiet_builtin _ (by decide +kernel), codeAny_builtin ktyn_entry ?_⟩
  unfold Builtin.«type.__name__»
  dsimp only
  unfold Builtin.keptObject slotAt
  refine wpAny_bind (wpAny_bind (wpAny_loadPart_at hget (wpAny_pure ?_)))
  rw [hz]
  exact wpAny_pure (h tk)
/-- C.__name__ -/
theorem name_attr {C : Addr} {z : Str} {expr : Bool} {Q : Value → Shared → Prop} (X : K.In s.heap) (N : Nmd K C z) (h : ∀ tk, Q (.str z tk) { s with toks := s.toks + 1 }) : wpAny (model prog w) A (getAttr (.ref C) "__name__" expr) Q E s := by
  refine cls_bind X N.rd N.fc ?_
  exact wpAny_call (name_get (s := { s with toks := s.toks + 1 }) X N fun tk => handed_on rfl (h tk))
end
/-- what an error's class says of __class__ -/
structure ClsE (K : PySem.W.Frag) (C : Addr) : Prop where
  ga : PySem.W.findIn K (.ref C) "__getattribute__" = some (some (.builtin "BaseException.__getattribute__"))
  gg : PySem.W.findIn K (.ref C) "__getattr__" = some none
  sb : PySem.W.subIn K (.ref C) (.type "BaseException") = some true
  hd : PySem.W.hasDictIn K C = true
  ca : PySem.W.findIn K (.ref C) "__class__" = some (some (.builtin "object.__class__"))
  cg : PySem.W.specialIn K (.builtin "object.__class__") "__get__" = some (some (.builtin "getset_descriptor.__get__"))
  ct : PySem.W.takesIn K (.builtin "object.__class__") = some true
  mo : PySem.W.mroIn K C (.type "object") = some true
section
variable {prog : Program} {w : World} {A : Around} {E : Value → Shared → Prop} {s : Shared} {K : PySem.W.Frag} {x D : Addr} {ox : Obj} {od : Option Obj}
/-- x.__class__ of an error of the class at D -/
theorem cls_attr {expr : Bool} {Q : Value → Shared → Prop} (T : ClsE K D) (X : K.In s.heap) (I : PySem.W.InstAt s.heap x ox D od) (hf : PySem.W.findObj K D od "__class__" = some (.bind (.builtin "getset_descriptor.__get__") (.builtin "object.__class__")))
    (h : Q (.ref D) { s with toks := s.toks + 1 }) : wpAny (model prog w) A (getAttr (.ref x) "__class__" expr) Q E s := by
  obtain ⟨hp, g, d, t, os⟩ := s
  have K0 := I.type (M := model prog w)
  have K1 := looks_findIn (M := model prog w) X T.ga
  have K2 := looks_findIn (M := model prog w) X T.gg
  have K3 := looks_find (M := model prog w) X I hf
  have up : PySem.W.Looks (model prog w) hp (isInstance (.ref x) (.type "BaseException")) true := K0.andThen (looks_subIn X T.sb)
  have b0 : (expr && onTheHeap (Value.builtin "BaseException.__getattribute__")) = false := by cases expr <;> rfl
  have b2 : (Value.builtin "BaseException.__getattribute__" == Value.builtin "object.__getattribute__") = false := by decide +kernel
  have b1 : (onTheHeap (Value.ref D) && Value.builtin "BaseException.__getattribute__" == Value.builtin "object.__getattribute__") = false := by rw [b2]; rfl
  unfold getAttr getAttrBy
  refine wpAny_bind (wpAny_mkText ?_)
  refine wpAny_holding (wpAny_bind (K0.at (wpAny_bind (K1.at ?_))))
  show wpAny _ _ (if (onTheHeap (Value.ref D) && Value.builtin "BaseException.__getattribute__" == Value.builtin "object.__getattribute__") = true then _ else _) _ _ _
  rw [b1]
  rw [if_neg Bool.false_ne_true]
  unfold getAttrByItsOwn hookBefore
  refine wpAny_bind ?_
  rw [if_pos (show onTheHeap (Value.ref D) = true by rfl)]
  refine K2.at (wpAny_bind (wpAny_attempt ?_))
  refine wpAny_holding ?_
  unfold callGetattribute
  rw [b0]
  rw [if_neg Bool.false_ne_true]
  unfold boundAndCalled
  rw [PySem.F.excAttr_ValueError.ga.bind (Value.ref x)]
  refine wpAny_bind (wpAny_pure ?_)
  show wpAny _ _ (call (.builtin "BaseException.__getattribute__") [.ref x, .str "__class__" t]) _ _ _
  refine wpAny_call ?_
  refine codeAny_call_builtin PySem.F.excAttr_ValueError.ga.plain PySem.F.entry_bexc_ga ?_
  refine @check_slot (model prog w) _ _ ⟨hp, g, d, t + 1, os⟩ "BaseException.__getattribute__" "BaseException" "__getattribute__" (.ref x) [.str "__class__" t] [] _ (by decide +kernel) (by decide +kernel) up (PySem.F.args_bexc_ga (.ref x) (.str "__class__" t)) ?_
  unfold Builtin.«object.__getattribute__»
  refine wpAny_bind (wpAny_of_eq (a := ((Value.ref x : Value), [Value.str "__class__" t])) (by first | rfl | (simp only [slotArgs]; rfl)) ?_)
  refine wpAny_bind (wpAny_pure (wpAny_bind (K0.at ?_)))
  refine wpAny_bind (K3.at ?_)
  show wpAny _ _ (holding [Value.builtin "object.__class__"] (call (.builtin "getset_descriptor.__get__") [.builtin "object.__class__", .ref x, .ref D]) >>= ret) _ _ _
  refine wpAny_bind (wpAny_holding (wpAny_call ?_))
  refine class_get (s := ⟨hp, g, d, t + 1, os⟩) (ox := ox) (od := od) X I T.mo ?_
  first
    | exact wpAny_pure (handed_on rfl (wpAny_pure h))
    | exact wpAny_pure (handed_on rfl h)
    | exact wpAny_pure (wpAny_bind (handed_on rfl (wpAny_pure h)))
end
end Rt

namespace Rt
open PySem PySem.Spec PyProof.Rows L2
/-! ### errors with the field called -/
def tCN (K : PySem.W.Frag) (te : TE) : TE := fun σ H Q => te σ H fun x H1 => ∃ (a C : Addr) (z : Str), x = .ref a ∧ ClsE K C ∧ Nmd K C z ∧ H1 a = some (exo a C none) ∧ Q (.str z) H1
/-- self.__class__.__name__ of an error that is being made -/
theorem pe_cn {X : Cx} {o : Expr} {te : TE} {p1 p2 : Pos} (ho : PE X o te) (hb1 : attributeBase o "__class__" X.env (eval o X.env) = eval o X.env := by rfl)
    (hb2 : attributeBase (.Attribute o "__class__" p1) "__name__" X.env (eval (.Attribute o "__class__" p1) X.env) = eval (.Attribute o "__class__" p1) X.env := by rfl) :
    PE X (.Attribute (.Attribute o "__class__" p1) "__name__" p2) (tCN X.K te) := by
  refine ⟨fun pins s σ H Q I h => ?_⟩
  refine attr_of hb2 (attr_of hb1 (thn (ho.run pins s σ H _ I h) fun u s1 hh => ?_))
  obtain ⟨x, H1, I1, rx, a, C, z, ex, T, N, ea, q⟩ := hh
  subst ex
  obtain rfl : u = Value.ref a := rx
  obtain ⟨t1, he⟩ := exo_at I1.hok ea
  have J : PySem.W.InstAt s1.heap a _ C none := ⟨he, rfl, rfl, trivial⟩
  have hf := PySem.W.findObj_dataN (K := X.K) (C := C) (name := "__class__") (by obtain ⟨cd, hc, _⟩ := PySem.W.any_some T.hd; rw [hc]; rfl) T.ca T.cg T.ct
  refine cls_attr T I1.kIn J hf ?_
  have I2 := I1.tok (s1.toks + 1)
  refine name_attr I2.kIn N fun tk => ?_
  exact ⟨.str z, H1, I2.tok _, ⟨tk, rfl⟩, q⟩
/-- all that a raise asks of an error's class: its name, its class object, the word that its errors bear -/
structure Err (K : PySem.W.Frag) (mg : Str → Option Value) (x : Str) (C : Addr) (z word : Str) : Prop where
  g : mg x = some (.ref C)
  oex : OexC K C
  cls : ClsE K C
  nmd : Nmd K C z
  nc : PySem.W.findIn K (.ref C) "called" = some none
  low : Txt.lower z = word
  sz : z.length ≤ 1000
/-- TapeError.__init__ (and its like): self.called is the class's name in small letters -/
def spInit (K : PySem.W.Frag) : Sp := fun vs H Q _ => ∃ (a C : Addr) (why : V) (z : Str), vs = [.ref a, why] ∧ OexC K C ∧ ClsE K C ∧ Nmd K C z ∧ PySem.W.findIn K (.ref C) "called" = some none ∧ z.length ≤ 1000 ∧ H a = some (exo a C none) ∧
  ∀ dx, H dx = none → dx ≠ a → Q .non (upd (upd H dx (exd dx [("called", .str (Txt.lower z))])) a (exo a C (some dx)))
/-- the rule of __init__ as the program has it -/
theorem init_reads {K : PySem.W.Frag} {Q : VK} {E : XK} {vs : List V} {H : Hp} (h : spInit K vs H Q E) :
    tSeq (tDrop (tVeI K (tCons (tVar 0) (tCons (tVar 1) tNil)))) (tSeq (tAsg (tCN K (tVar 0)) (gName 2)) (tOst K "called" (tVar 0) (fun σ H Q => (tVar 2) σ H fun x H1 => ∃ a, x = .str a ∧ ([] : List V) = [] ∧ a.length ≤ 5592405 ∧ Q (.str (Txt.lower a)) H1)))
      { nx := fun _ H' => Q .non H', rt := Q } (L2.start ["self", "why", "name"] vs) H := by
  obtain ⟨a, C, why, z, rfl, T1, T2, T3, T4, hz, ha, q⟩ := h
  refine ⟨_, rfl, _, rfl, a, C, _, rfl, (by show 1 ≤ 1000; decide), T1, ha, ?_⟩
  refine ⟨_, rfl, a, C, z, rfl, T2, T3, ha, ?_⟩
  refine ⟨_, rfl, _, rfl, rfl, by omega, ?_⟩
  exact ⟨_, rfl, a, C, rfl, T1, T4, .inl ⟨ha, fun dx h1 h2 => q dx h1 h2⟩⟩
end Rt

namespace Rt
open PySem PySem.Spec PyProof.Rows L2
/-! ### several clauses, each with a name (slot i) -/
abbrev wipeEnds (i : Nat) (D : Ends) : Ends := { nx := fun τ G => D.nx (τ.set i none) G, rt := D.rt, bk := fun τ G => D.bk (τ.set i none) G, ct := fun τ G => D.ct (τ.set i none) G }
def wAll (K : PySem.W.Frag) (i : Nat) (W0 : WX) (D : Ends) : List (Value × (Addr → Value → Option Addr → TS)) → WX
  | [] => W0
  | p :: r => fun cls d τ G => ∃ b, PySem.W.exmOne K cls p.1 = some b ∧ (b = true → ∀ a, G a = none → p.2 a cls d (wipeEnds i D) (τ.set i (some (.ref a))) G) ∧ (b = false → wAll K i W0 D r cls d τ G)
inductive Hds (X : Cx) (n : Str) : List ExceptHandler → List (Value × (Addr → Value → Option Addr → TS)) → Prop
  | nil : Hds X n [] []
  | cons {x : Str} {c : Value} {ts : Addr → Value → Option Addr → TS} {b₀ : Stmt} {su : List Stmt} {np q : Pos} {hds : List ExceptHandler} {l : List (Value × (Addr → Value → Option Addr → TS))} (hc : Names X x c)
      (go : ∀ (a : Addr) (oe : Obj) (cls : Value) (d : Option Addr) (pn : List (Addr × Obj)), Zc cls d oe → (∃ vs, oe.data = .fields vs) → PSs (X.suite a ((a, oe) :: pn)) (b₀ :: su) (ts a cls d)) (r : Hds X n hds l) :
      Hds X n (.ExceptHandler (some (.Name x np)) (some n) (b₀ :: su) q :: hds) ((c, ts) :: l)
section
variable {X : Cx} {n : Str} {i : Nat} {body : List Stmt} {h1 : ExceptHandler} {hds : List ExceptHandler} {l : List (Value × (Addr → Value → Option Addr → TS))} {pos : Pos} {tb : WX → TS} {W0 : WX}
theorem ps_try_all (hs : X.stack = X.env :: X.outer) (hf : X.env.frame = some X.env.locals) (hN : X.N.Nodup) (hi : X.N[i]? = some n) (hln : X.env.kindOf n = some .local) (tk : Takes X W0)
    (hb : ∀ (W : WX) (pn : List (Addr × Obj)) (xe : Value → Shared → Prop), Takes (X.tr pn xe) W → PassesOwn (model X.prog X.w) X.A X.env xe → PSs (X.tr pn xe) body (tb W))
    (hh : Hds X n (h1 :: hds) l) : PS X (.Try body (h1 :: hds) [] [] pos) (fun D σ H => tb (wAll X.K i W0 D l) D σ H) := by
  refine ⟨fun pins s σ H D I h => ?_⟩
  have ok := I.ok
  have frm : X.A.frames = some (X.env :: X.outer) := by
    rw [ok.frames, hs]
  have nloc : Loc X.env.scope n := Or.inl hln
  have run := (hb (wAll X.K i W0 D l) (X.pn ++ pins) (fun e s₁ => wpAny (model X.prog X.w) X.A (noteFrame e X.env) (fun _ s₂ => wpAny (model X.prog X.w) X.A (setFlight e none) (fun _ s₃ =>
    wpAny (model X.prog X.w) X.A (handleBy e X.env (h1 :: hds)) (SP X pins D) X.xe s₃) X.xe s₂) X.xe s₁) (fun u s' xx => ?_) PassesOwn.looking).run [] s σ H D (I.toTry _) h
  · refine wpAny_Try_except (wpAny_mono run (fun f s1 hsp => ?_) (fun e s1 he => he))
    cases f with
    | next =>
      obtain ⟨τ, G, J, q⟩ := hsp
      exact wpAny_execs_nil ⟨τ, G, J.ofTry ok, q⟩
    | brk =>
      obtain ⟨τ, G, J, q⟩ := hsp
      exact ⟨τ, G, J.ofTry ok, q⟩
    | cont =>
      obtain ⟨τ, G, J, q⟩ := hsp
      exact ⟨τ, G, J.ofTry ok, q⟩
    | ret u =>
      obtain ⟨v, τ, G, J, r, q⟩ := hsp
      exact ⟨v, τ, G, J.ofTry ok, r, q⟩
  · obtain ⟨a, B, sI, pins', τ, G, cls, d, rfl, J', nb, up, sky, na, os, ag, w⟩ := xx
    have J : Inv X pins τ G sI := J'.ofTry ok
    have sky1 : Sky B (X.env :: X.outer) a (Zc cls d) X.env.locals s'.heap := by
      rw [← hs]; exact sky
    show wpAny (model X.prog X.w) X.A (noteFrame (.ref a) X.env) _ _ _
    refine Sky.land Zc.steady frm hf sky1 fun h3 fl3 up3 => ?_
    have J3 : Inv X pins τ G { s' with heap := h3 } := J.landed nb fl3.1 (up.trans up3) os ag
    obtain ⟨oe3, vs3, he3, hz3, hd3⟩ := fl3.there
    have off : ∀ {k : Heap} {o : Obj} {vs : Array Value}, k.FunFrames B (X.env :: X.outer) → k.get? a = some o → o.data = .fields vs → a ∉ frs (X.env :: X.outer) := by
      intro k o vs ff e dd hm
      obtain ⟨_, o', e', hnf⟩ := ff.mem hm
      rw [e] at e'
      cases e'
      exact hnf _ dd
    have nfr := off fl3.2.2.1 he3 hd3
    have nL : a ≠ X.env.locals := by
      intro z
      exact nfr (List.mem_filterMap.mpr ⟨X.env, List.mem_cons_self, by rw [hf, z]⟩)
    have nF : a ∉ X.fs := by
      intro hm
      obtain ⟨e, he, q⟩ := List.mem_filterMap.mp hm
      exact nfr (List.mem_filterMap.mpr ⟨e, List.mem_cons_of_mem _ he, q⟩)
    have S3 := J3.suite he3 hd3 na nL nF
    have go : ∀ {hds' : List ExceptHandler} {l' : List (Value × (Addr → Value → Option Addr → TS))}, Hds X n hds' l' → wAll X.K i W0 D l' cls d τ G →
        wpAny (model X.prog X.w) X.A (handleBy (.ref a) X.env hds') (SP X pins D) X.xe { s' with heap := h3 } := by
      intro hds' l' hk
      induction hk with
      | nil =>
        intro w
        refine wpAny_handleBy_nil ?_
        obtain ⟨k1, k2, k3, oe, vs, T, oT, ts', he, hz, hd, hv1, hr⟩ := id fl3
        unfold PySem.passOn
        refine wpAny_bind (wpAny_field he hd hv1 ?_)
        rw [if_neg (show ¬ ((Value.ref T == Value.none) = true) by simp)]
        have out : wpAny (model X.prog X.w) X.A (setFlight (.ref a) X.env.frame) (fun _ s4 => wpAny (model X.prog X.w) X.A (throw (.ref a) : Sem Flow) (SP X pins D) X.xe s4) X.xe { s' with heap := h3 } := by
          rw [hf]
          refine HandSPX.setFlight_upZ fl3 fun h4 hh4 up4 => ?_
          refine wpAny_throw (tk _ _ ⟨a, B, sI, pins, τ, G, cls, d, rfl, J, nb, (up.trans up3).trans up4, ?_, na, os, ag, w⟩)
          exact Or.inr (Or.inr (by rw [hs]; exact hh4))
        first
          | exact wpAny_bind (wpAny_pure (wpAny_bind out))
          | exact wpAny_bind out
      | @cons x c ts b₀ su np q hds2 l2 hc hsu r ih =>
        intro w
        obtain ⟨b, hb1, hyes, hno⟩ := w
        refine wpAny_handleBy_cons (codeAny_handlers_test ?_) (by intro q; cases q)
        have LT : PySem.W.Looks (model X.prog X.w) h3 (typeOf (.ref a)) cls := by
          intro A Q E s k q
          exact wpAny_typeOf_ref (k _ _ he3) (by rw [hz3.1]; exact q)
        have LM := PySem.W.exm_one (M := model X.prog X.w) (J3.kIn) LT hb1
        have test : ∀ {Q : Value → Shared → Prop} {E : Value → Shared → Prop}, Q c { s' with heap := h3 } → wpAny (model X.prog X.w) (X.A.mark (some (.ref a))) (eval (.Name x np) X.env) Q E { s' with heap := h3 } := by
          intro Q E q
          obtain ⟨hg, hdbg, hm⟩ := hc
          rcases hm with hm | ⟨hm, hv, hnn⟩
          · exact ld_glob (X := X.suite a ((a, oe3) :: (X.pn ++ pins))) S3 hg hm q hdbg
          · exact ld_blt (X := X.suite a ((a, oe3) :: (X.pn ++ pins))) S3 hg hm hv q hnn hdbg
        refine test (LM.here ?_)
        cases b with
        | false =>
          show wpAny _ X.A (handleBy (.ref a) X.env hds2) _ _ _
          exact ih (hno rfl)
        | true =>
          refine codeAny_handlers_suite_as (HandSPX.lands_againZ fl3 fun h4 fl4 up4 => ?_)
          have J4 : Inv X pins τ G { s' with heap := h4 } := J.landed nb fl4.1 ((up.trans up3).trans up4) os ag
          obtain ⟨oe4, vs4, he4, hz4, hd4⟩ := fl4.there
          have S4 := J4.suite he4 hd4 na nL nF
          refine store_ok (X := X.suite a ((a, oe4) :: (X.pn ++ pins))) (v := .ref a) S4 hN hi nloc rfl (fun s5 S5 => ?_) (Or.inr hln)
          have fin : ∀ {τ6 : L2.St} {G6 : Hp} {s6 : Shared} {Q : Shared → Prop}, Inv (X.suite a ((a, oe4) :: (X.pn ++ pins))) [] τ6 G6 s6 → (∀ s7, Inv X pins (τ6.set i none) G6 s7 → Q s7) →
              wpAny (model X.prog X.w) X.A (do bindName X.env n .none; unbindBehindTheSuite X.env n q) (fun _ s7 => Q s7) X.xe s6 := by
            intro τ6 G6 s6 Q S6 hq
            exact gone_ok (S6.unsuite ok) hN hi hln hq
          refine wpAny_mono ((hsu a oe4 cls d (X.pn ++ pins) hz4 ⟨_, hd4⟩).run [] s5 _ G _ S5 (hyes rfl a na)) (fun f s6 hsp => ?_) (fun _ _ z => False.elim z)
          cases f with
          | next =>
            obtain ⟨τ6, G6, S6, q6⟩ := hsp
            exact fin S6 fun s7 J7 => ⟨_, _, J7, q6⟩
          | brk =>
            obtain ⟨τ6, G6, S6, q6⟩ := hsp
            exact fin S6 fun s7 J7 => ⟨_, _, J7, q6⟩
          | cont =>
            obtain ⟨τ6, G6, S6, q6⟩ := hsp
            exact fin S6 fun s7 J7 => ⟨_, _, J7, q6⟩
          | ret u =>
            obtain ⟨v6, τ6, G6, S6, r6, q6⟩ := hsp
            exact fin S6 fun s7 J7 => ⟨_, _, _, J7, r6, q6⟩
    exact go hh w
end
end Rt

namespace Rt
open PySem PySem.Spec PyProof.Rows L2
/-- an error of the program, in flight: its class bears word (tape: under TapeError, else under MissingError); nothing else is turned -/
structure Raised (K : PySem.W.Frag) (mg : Str → Option Value) (word : Str) (tape : Bool) (H : Hp) (cls : Value) (d : Option Addr) (H' : Hp) : Prop where
  ex : ∃ (C CT CM dd : Addr), cls = .ref C ∧ d = some dd ∧ H dd = none ∧ H' = upd H dd (.xd [("called", .str word)]) ∧ XfC K C ∧ PySem.W.findIn K (.ref C) "called" = some none ∧
    mg "TapeError" = some (.ref CT) ∧ mg "MissingError" = some (.ref CM) ∧ PySem.W.exmOne K (.ref C) (.ref CT) = some tape ∧ (tape = false → PySem.W.exmOne K (.ref C) (.ref CM) = some true)
/-- an error's class with its __init__ (level k) -/
structure ErrK (P : Program) (w : World) (K : PySem.W.Frag) (mg : Str → Option Value) (base : Heap) (k : Nat) (x word : Str) (tape : Bool) : Prop where
  ex : ∃ (C CT CM fI : Addr) (z : Str) (fd : FuncData), Err K mg x C z word ∧ PySem.W.findIn K (.ref C) "__init__" = some (some (.ref fI)) ∧ PySem.W.typeIn K (.ref fI) = some (.type "function") ∧
    FnOk P w K mg base CX0 k fI fd ["self", "why"] (spInit K) ∧ Binds K fd ["self", "why"] [] ∧ XfC K C ∧
    mg "TapeError" = some (.ref CT) ∧ mg "MissingError" = some (.ref CM) ∧ PySem.W.exmOne K (.ref C) (.ref CT) = some tape ∧ (tape = false → PySem.W.exmOne K (.ref C) (.ref CM) = some true)
/-- raise X(why) -/
def tRaiseK (K : PySem.W.Frag) (mg : Str → Option Value) (word : Str) (tape : Bool) (W : WX) (ta : TA) : TS := fun _ σ H => ta σ H fun vs H1 => ∃ why, vs = [why] ∧ ∀ cls d H', Raised K mg word tape H1 cls d H' → W cls d σ H'
/-- a reading with room: what is read may be weakened -/
def tUp (ta : TA) : TA := fun σ H Q => ∃ R : List V → Hp → Prop, ta σ H R ∧ ∀ vs H1, R vs H1 → Q vs H1
theorem pa_up {X : Cx} {es : List Expr} {ta : TA} (ha : PA X es ta) : PA X es (tUp ta) := ⟨fun pos pins s σ H Q I ⟨R, h, imp⟩ => thn (ha.run pos pins s σ H R I h) fun us s1 ⟨vs, H1, I1, r, q⟩ => ⟨vs, H1, I1, r, imp vs H1 q⟩⟩
section
variable {X : Cx} {x word : Str} {tape : Bool} {k : Nat} {e : Expr} {es : List Expr} {ta : TA} {W : WX} {p pos pos2 : Pos}
theorem ps_raiseK (hc : X.calm = true) (T : ErrK X.prog X.w X.K X.mg X.base k x word tape) (hr : Room (k + 1) X.A) (tk : Takes X W) (hg : Gl X x) (ha : PA X (e :: es) ta) (hdb : (x == ("__debug__" : Str)) = false := by decide)
    (he : starEach (e :: es) X.env = (false, eval e X.env) :: starEach es X.env := by rfl) (hpl : (backTo pos (starEach es X.env)).any (·.1) = false := by rfl) :
    PS X (.Raise (some (.Call (.Name x p) (e :: es) [] pos)) none pos2) (tRaiseK X.K X.mg word tape W ta) := by
  obtain ⟨C, CT, CM, fI, z, fd, R, iC, tI, F1, hb, xf, g1, g2, m1, m2⟩ := T.ex
  have mk := pmk_oex (X := X) (CX := CX0) (p := p) (pos := pos) R.oex iC tI F1 hr hb .nil pass0 hg R.g (pa_up ha) hdb he hpl
  have rs := ps_raise (pos := pos2) hc tk mk
  refine ⟨fun pins s σ H D I h => rs.run pins s σ H D I ?_⟩
  -- from our reading to the rule's
  have imp : ∀ (vs : List V) (H1 : Hp), (∃ why, vs = [why] ∧ ∀ cls d H', Raised X.K X.mg word tape H1 cls d H' → W cls d σ H') →
      vs.length ≤ 1000 ∧ ∀ a, H1 a = none → spInit X.K (.ref a :: (vs ++ [])) (upd H1 a (exo a C none))
        (fun v H2 => v = .non ∧ ∃ (d : Addr) (fs : List (Str × V)), H2 a = some (exo a C (some d)) ∧ H2 d = some (exd d fs) ∧ H1 d = none ∧ W (.ref C) (some d) σ (upd (del H2 a) d (.xd fs))) (fun _ _ _ => False) := by
    rintro vs H1 ⟨why, rfl, q⟩
    refine ⟨(by show 1 ≤ 1000; decide), fun a ha => ⟨a, C, why, z, rfl, R.oex, R.cls, R.nmd, R.nc, R.sz, upd_same, fun dx hdx nda => ⟨rfl, dx, [("called", .str (Txt.lower z))], upd_same, ?_, ?_, ?_⟩⟩⟩
    · rw [upd_ne nda, upd_same]
    · rw [upd_ne nda] at hdx
      exact hdx
    · rw [upd_ne nda] at hdx
      refine q _ _ _ ⟨C, CT, CM, dx, rfl, rfl, hdx, ?_, xf, R.nc, g1, g2, m1, m2⟩
      funext b
      by_cases e1 : b = dx
      · rw [e1, upd_same, upd_same, R.low]
      · rw [upd_ne e1, upd_ne e1]
        by_cases e2 : b = a
        · rw [e2, del_same, ha]
        · rw [del_ne e2, upd_ne e2, upd_ne e1, upd_ne e2]
  exact ⟨_, h, imp⟩
end
end Rt

namespace Rt
open PySem PySem.Spec PyProof.Rows L2 LamX
/-! ### a def that is handed a lambda and calls it; what is raised is wished for at the slots -/
section
variable {X : Cx} {pins : List (Addr × Obj)} {σ : L2.St} {H : Hp} {s : Shared}
theorem pe_ask {CXg : CXT} {Eg : XK} {Ng : List Str} {qg : Str} {sg : Scope} {g f c' : Addr} {cdg pm ctv : Value} {params : Arguments} {body : Expr} {scope : Scope} {k i : Nat} {a : Str} {pn : List (Addr × Obj)} {xe : Value → Shared → Prop} {W : WX} {tb : XK → TE} {p1 p2 : Pos}
    (I : Inv X pins σ H s) (L : LamS X.env.scope scope) (hf : s.heap.get? f = some (PySem.W.kla_obj "<lambda>" (X.env.qual ++ "<lambda>") params body scope (cloFrom X.env.cells scope.names []) pm c' ctv)) (hfn : H f = none) (hfr : f ∉ frs X.stack)
    (hbind : bindArgs (PySem.W.kla_fn "<lambda>" (X.env.qual ++ "<lambda>") params body scope (cloFrom X.env.cells scope.names []) pm (.ref c') ctv) ⟨[], []⟩ = pure [])
    (tk : Takes ((cxOf CXg X.prog X.w X.K X.mg X.base Ng qg sg g cdg X.A X.stack s H Eg).tr pn xe) W) (hr : Room (k + 1) (X.A.deeper (envOfC qg sg s.heap.objs.size g cdg)))
    (hbody : ∀ (E : XK) (A : Around) (outer : List Env) (s : Shared) (H : Hp), Room k (A.deeper (lamEnv X scope s.heap.objs.size f c')) → PE (lamCx X A outer s H E scope f c') body (tb E))
    (hN : Ng[i]? = some a) (hv : Vis sg a) (hd : (a == ("__debug__" : Str)) = false := by decide) (hcd : (a == ("__classdict__" : Str)) = false := by decide) :
    PE ((cxOf CXg X.prog X.w X.K X.mg X.base Ng qg sg g cdg X.A X.stack s H Eg).tr pn xe) (.Call (.Name a p1) [] [] p2)
      (fun τ G Q => τ[i]? = some (some (.ref f)) ∧ G c' = some (CodeO c' (X.env.qual ++ "<lambda>")) ∧ ∃ (Ec : XK) (R : VK), (∀ cls d G', Ec cls d G' → W cls d τ G') ∧ (∀ v G', R v G' → Q v G') ∧ tb Ec σ G R) := by
  refine ⟨fun pinsZ sZ τ G Q IZ h => ?_⟩
  obtain ⟨hs, hc, Ec, R, hW, hR, ht⟩ := h
  have nm := (pe_var (X := (cxOf CXg X.prog X.w X.K X.mg X.base Ng qg sg g cdg X.A X.stack s H Eg).tr pn xe) (pos := p1) (i := i) hN hv hd hcd).run pinsZ sZ τ G (fun v H1 => v = .ref f ∧ H1 = G) IZ ⟨.ref f, hs, rfl, rfl⟩
  refine wpAny_Call_Name_kw (thn nm fun u s1 hu => ?_)
  obtain ⟨v, H1, I1, r1, ev, eH⟩ := hu
  subst ev
  rw [eH] at I1
  obtain rfl : u = Value.ref f := r1
  have un : Un (frs X.stack) [] H G s.heap s1.heap := I1.base
  have of1 := un.keep f _ hf hfn hfr (fun z => nomatch (show f ∈ ([] : List Addr) from z))
  refine PySem.W.callWith_F0 ⟨_, _, _, _, of1⟩ ?_
  obtain ⟨⟨oc, vs, t, hoc, hdc, hvc⟩, _, _⟩ := I1.hok c' _ hc
  have rc : codeAny (model X.prog X.w) (X.A.deeper (envOfC qg sg s.heap.objs.size g cdg)) (.call (.ref f) ⟨[], []⟩)
      (CR (L2.CX X.prog X.w) (envOfC qg sg s.heap.objs.size g cdg :: X.stack) X.prog X.w G s1 Q Ec) s1 := by
    refine PySem.W.kla_callFunE hr.depth of1 rfl L.co L.gen rfl ⟨c', oc, vs, t, rfl, hoc, hdc, hvc⟩ ?_
    rw [hbind]
    refine wpAny_pure (wpAny_newFunctionEnv (fun y hy => (L.own y hy).2) (fun y hy => absurd hy (by simp)) (fun h₁ hns hsb => ?_) L.kind)
    refine ⟨I1.nolimit.fresh _ hsb, ?_⟩
    show codeAny _ _ (.expr body (lamEnv X scope s1.heap.objs.size f c')) _ _
    have kp : ∀ b o, s1.heap.get? b = some o → h₁.get? b = some o := by
      intro b o e
      exact hsb.extBut b o (Nat.ne_of_lt (Heap.lt_size e)) (Heap.get?_push_of_some _ e)
    have J : Inv (lamCx X (X.A.deeper (envOfC qg sg s.heap.objs.size g cdg)) (envOfC qg sg s.heap.objs.size g cdg :: X.stack) s1 G Ec scope f c') [] σ G
        { s1 with heap := h₁, toks := s1.toks + ([] : List (Str × Value)).length } := lam_start2 I L I1.env0 hr.hd un hns kp
    refine PySem.W.kla_codeExpr (wpAny_mono ((hbody Ec _ _ s1 G (hr.deeper _)).run [] _ _ G R J ht) (fun v s' hq => ?_) fun e s' hq => hq)
    obtain ⟨w', H', J', rv, q⟩ := hq
    exact ⟨w', H', J'.os, J'.bare, J'.base, J'.hok, rv, hR _ _ q⟩
  refine wpAny_call (codeAny_mono rc fun r s' hq => ?_)
  cases r with
  | error e => exact tk e s' (XE.of_call I1 (fun cls d G' hE => hW cls d G' hE) hq)
  | ok fl =>
    cases fl with
    | ret u => exact I1.after hq
    | next => exact False.elim hq
    | brk => exact False.elim hq
    | cont => exact False.elim hq
end
/-- the def with its lambda in slot 0; TT: what it makes of the lambda's reading (tl E H Q: E what is wished of an error) -/
def Asks (X : Cx) (Ng : List Str) (x : Str) (sg : Scope) (g : Addr) (cdg : Value) (bg : List Stmt) (a : Str) (q : Str) (TT : (XK → Hp → VK → Prop) → Hp → VK → Prop) : Prop :=
  ∀ (f c' : Addr) (s : Shared) (H : Hp) (Q : VK) (tl : XK → Hp → VK → Prop),
    (∀ (W : WX) (pn : List (Addr × Obj)) (xe : Value → Shared → Prop) (p1 p2 : Pos), Takes ((cxOf C8.CX0 X.prog X.w X.K X.mg X.base Ng x sg g cdg X.A X.stack s H C8.E0).tr pn xe) W →
      PE ((cxOf C8.CX0 X.prog X.w X.K X.mg X.base Ng x sg g cdg X.A X.stack s H C8.E0).tr pn xe) (.Call (.Name a p1) [] [] p2) (fun τ G Q => τ[0]? = some (some (.ref f)) ∧ G c' = some (CodeO c' q) ∧ ∃ (Ec : XK) (R : VK), (∀ cls d G', Ec cls d G' → W cls d τ G') ∧ (∀ v G', R v G' → Q v G') ∧ tl Ec G R)) →
    H c' = some (CodeO c' q) → TT tl H Q →
    ∃ t, PSs (cxOf C8.CX0 X.prog X.w X.K X.mg X.base Ng x sg g cdg X.A X.stack s H C8.E0).nox bg t ∧ t { nx := fun _ H' => Q .non H', rt := Q } (L2.start Ng [.ref f]) H
section
variable {X : Cx}
/-- x(lambda: body) -/
theorem pe_asks {T : List (Addr × Str)} {TT : (XK → Hp → VK → Prop) → Hp → VK → Prop} {x a : Str} {g c P : Addr} {k : Nat} {pg : Arguments} {bg : List Stmt} {sg : Scope} {dV kV doc pm cdv ct oc : Value} {an od : Option Addr} {osl : Array (Option Value)} {Ng : List Str}
    {params : Arguments} {body : Expr} {scope : Scope} {t : XK → TE} {p lpos pos : Pos} (hg : Gl X x) (hm : X.mg x = some (.ref g)) (hk : PySem.W.keepIn X.K (.ref g) = true)
    (lk : X.K.lookup g = some ⟨oc, od, .func (PySem.W.fnOf x x pg bg sg dV kV doc pm an cdv ct), osl⟩) (hcg : PySem.W.codeIn X.K cdv x = true) (hb : L2.Binds X.K (PySem.W.fnOf x x pg bg sg dV kV doc pm an cdv ct) [a] []) (Sg : FnScope Ng [a] sg) (hNg : Ng[0]? = some a) (hva : Vis sg a)
    (hG : Asks X Ng x sg g cdv bg a (X.env.qual ++ "<lambda>") TT)
    (TB : TabB X.base X.mg c P) (hcode : X.env.code = .ref c) (hmT : (P, X.env.qual ++ "<lambda>") ∈ T) (hu : ∀ p ∈ T, p.1 = P → p.2 = X.env.qual ++ "<lambda>") (hr : Room (k + 2) X.A) (L : LamS X.env.scope scope) (hdef : defaultsOf params X.env = ([], []))
    (hbind : ∀ (q : Str) (cl : List (Str × Addr)) (pm cv ctv : Value), bindArgs (PySem.W.kla_fn "<lambda>" q params body scope cl pm cv ctv) ⟨[], []⟩ = pure [])
    (hbody : ∀ (E : XK) (A : Around) (outer : List Env) (s : Shared) (H : Hp) (f c' : Addr), Room k (A.deeper (lamEnv X scope s.heap.objs.size f c')) → PE (lamCx X A outer s H E scope f c') body (t E))
    (hdb : (x == ("__debug__" : Str)) = false := by decide) (hd : (a == ("__debug__" : Str)) = false := by decide) (hcd : (a == ("__classdict__" : Str)) = false := by decide) :
    PE X (.Call (.Name x p) [.Lambda params body scope lpos] [] pos) (tLam T TT t) := by
  refine ⟨fun pins s σ H Q I ⟨hT, h⟩ => ?_⟩
  refine wpAny_Call_Name_kw (ld_glob I hg hm ?_ hdb)
  refine PySem.W.callWith_K (h₀ := X.base) I.ok.mod.kin hk ?_ (by rfl) (by rfl)
  show wpAny _ _ (spliced ((false, eval (.Lambda params body scope lpos) X.env) :: backTo pos (starEach [] X.env))) _ _ s
  have made := fun (Q : Value → Shared → Prop) (E : Value → Shared → Prop) => lam_make2 (Q := Q) (E := E) (params := params) (body := body) (pos := lpos) I TB hcode hmT hu hT hdef (L.has I.ok)
  refine Calls.spliced_cons (made _ _ ?_)
  intro f c' pm' ctv H1 s' I1 eN T1 hf hfn hfr hco
  refine Calls.spliced_nil ⟨I1.kIn, ?_⟩
  have rc : codeAny (model X.prog X.w) X.A (.call (.ref g) ⟨[.ref f], []⟩) (CR C8.CX0 X.stack X.prog X.w H1 s' Q C8.E0) s' := by
    refine run_ofS (N := Ng) (ps := [a]) (us := [.ref f]) (vs := [.ref f]) lk hcg Sg hr I1.env0 (hb s' [.ref f] I1.kIn rfl) (.cons rfl .nil) rfl fun hr' => ?_
    have act := fun (W : WX) (pn : List (Addr × Obj)) (xe : Value → Shared → Prop) (p1 p2 : Pos) (tk : Takes ((cxOf C8.CX0 X.prog X.w X.K X.mg X.base Ng x sg g cdv X.A X.stack s' H1 C8.E0).tr pn xe) W) =>
      pe_ask (i := 0) (p1 := p1) (p2 := p2) (tb := t) I1 L hf hfn hfr (hbind _ _ _ _ _) tk hr' (fun E A outer s H hr2 => hbody E A outer s H f c' hr2) hNg hva hd hcd
    obtain ⟨t', ht', hq'⟩ := hG f c' s' H1 Q (fun E H' Q' => t E σ H' Q') act hco (h H1 eN T1)
    exact ⟨t', ht'.nox, hq'⟩
  refine wpAny_call (codeAny_mono rc fun r s2 hq => ?_)
  cases r with
  | error e => exact False.elim (show False from hq)
  | ok fl =>
    cases fl with
    | ret u => exact I1.after hq
    | next => exact False.elim hq
    | brk => exact False.elim hq
    | cont => exact False.elim hq
end
/-- e.f of the error that a suite holds, whatever its class -/
theorem pe_xfA {X : Cx} {a : Addr} {oe : Obj} {cls : Value} {d : Option Addr} {pn : List (Addr × Obj)} {e : Expr} {te : TE} {pos : Pos} {n : Str} (hz : Zc cls d oe) (hf : ∃ vs, oe.data = .fields vs) (he : PE (X.suite a ((a, oe) :: pn)) e te)
    (hb : attributeBase e n X.env (eval e X.env) = eval e X.env := by rfl) :
    PE (X.suite a ((a, oe) :: pn)) (.Attribute e n pos) (fun σ H Q => ∃ C, XfC X.K C ∧ PySem.W.findIn X.K (.ref C) n = some none ∧ tXf a cls d C n te σ H Q) :=
  ⟨fun pins s σ H Q I ⟨C, T, hno, h⟩ => (pe_xf T hno hz hf he hb).run pins s σ H Q I h⟩
end Rt

namespace Rt
open PySem PySem.Spec PyProof.Rows L2 LamX
/-- a def of the text that may let an error out -/
structure DefX (P : Program) (w : World) (K : PySem.W.Frag) (mg : Str → Option Value) (base : Heap) (x : Str) (k : Nat) (sp : Sp) : Prop where
  ex : ∃ (f : Addr) (fd : FuncData) (ps : List Str), mg x = some (.ref f) ∧ FnOk P w K mg base (L2.CX P w) k f fd ps sp ∧ PySem.W.keepIn K (.ref f) = true ∧ Binds K fd ps []
section
variable {X : Cx} {x : Str} {p pos : Pos} {e : Expr} {es : List Expr} {t : TA} {k : Nat} {sp : Sp} {W : WX}
theorem pe_dx (D : DefX X.prog X.w X.K X.mg X.base x k sp) (hr : Room k X.A) (hg : Gl X x) (tk : Takes X W) (ha : PA X (e :: es) t) (hdb : (x == ("__debug__" : Str)) = false := by decide)
    (he : starEach (e :: es) X.env = (false, eval e X.env) :: starEach es X.env := by rfl) (hpl : (backTo pos (starEach es X.env)).any (·.1) = false := by rfl) :
    PE X (.Call (.Name x p) (e :: es) [] pos) (tCallS sp (WE W) t) := by
  obtain ⟨f, fd, ps, h1, h2, h3, h4⟩ := D.ex
  exact pe_callS h2 hr hg h1 h3 h4 (fun σ => passAt tk σ) ha hdb he hpl
end
section
variable {P : Program} {w : World} {K : PySem.W.Frag} {mg : Str → Option Value} {base : Heap}
/-- a def whose code object is known -/
theorem okC {x qual : Str} {st : Stmt} {f c : Addr} {fd : FuncData} {N ps : List Str} {k : Nat} {sp : Sp} (F : Fun K x qual st f fd) (hcode : fd.code = .ref c) (S : FnScope N ps (defScope st)) (len : ∀ vs H Q E, sp vs H Q E → vs.length = ps.length)
    (hbody : ∀ (A : Around) (outer : List Env) (s : Shared) (H : Hp) (vs : List V) (Q : VK) (E : XK), Room k (A.deeper (envOfC qual (defScope st) s.heap.objs.size f (.ref c))) → sp vs H Q E →
      ∃ t, PSs (cxOf CX0 P w K mg base N qual (defScope st) f (.ref c) A outer s H E).nox (defBody st) t ∧ t { nx := fun _ H' => Q .non H', rt := Q } (L2.start N vs) H) : FnOk P w K mg base CX0 (k + 1) f fd ps sp := by
  obtain ⟨oc, od, kV, doc, pm, an, cdv, ct, osl, rfl, lk, hcd⟩ := F.ex
  have e : cdv = .ref c := hcode
  subst e
  refine fn_of lk hcd S len fun A outer s H vs Q E hr hsp => ?_
  obtain ⟨t, h, q⟩ := hbody A outer s H vs Q E hr hsp
  exact ⟨t, h.nox, q⟩
end
/-! ### tables of code objects -/
theorem tabs_but {T : List (Addr × Str)} {H H' : Hp} {d : Addr} {xs : List V} (t : Tabs T H) (hd : H d = some (.lst xs)) (k : ∀ b o, H b = some o → b ≠ d → H' b = some o) : Tabs T H' := by
  intro p hp
  obtain ⟨ps, h1, h2, h3⟩ := t p hp
  refine ⟨ps, k _ _ h1 (fun z => ?_), h2, fun pos cv hc => ?_⟩
  · rw [z, hd] at h1
    cases h1
  · obtain ⟨c, e1, e2⟩ := h3 pos cv hc
    refine ⟨c, e1, k _ _ e2 fun z => ?_⟩
    rw [z, hd] at e2
    unfold CodeO at e2
    cases e2
/-- nothing settled is a table -/
def NoTab (H0 : Hp) : Prop := ∀ b ps, H0 b ≠ some (.tbl ps)
theorem NoTab.upd {H0 : Hp} {p : Addr} {o : HO} (h : NoTab H0) (n : ∀ ps, o ≠ .tbl ps) : NoTab (upd H0 p o) := fun b ps z => by
  by_cases e : b = p
  · rw [e, upd_same] at z
    exact n ps (Option.some.inj z)
  · rw [upd_ne e] at z
    exact h b ps z
theorem Ex.extN {H0 H H' : Hp} (e : Ex H0 H) (n : NoTab H0) (x : ExtN H H') : Ex H0 H' := fun b o h => x b o (e b o h) fun ps z => n b ps (z ▸ h)
theorem Dr.extN {H0 H H' : Hp} {d : Addr} (x : Dr H0 H d) (e : ExtN H H') : Dr H0 H' d := by
  obtain ⟨⟨a, ns, i, j, k, l, h1, h2⟩, n⟩ := x
  exact ⟨⟨a, ns, i, j, k, l, e _ _ h1 (fun ps z => nomatch z), h2⟩, n⟩
/-- the least that a drawing needs -/
theorem Dr.least {H0 H : Hp} {d : Addr} (x : Dr H0 H d) (e : Ex H0 H) : ∃ A0 : Hp, Ex A0 H ∧ Dr A0 H d ∧ NoTab A0 := by
  obtain ⟨⟨a, ns, i, j, k, l, h1, h2, h3⟩, n⟩ := x
  refine ⟨upd (fun _ => none) a (.lst (ns.map V.int)), fun b o h => ?_, ⟨⟨a, ns, i, j, k, l, h1, upd_same, h3⟩, ?_⟩, NoTab.upd (fun b ps z => nomatch z) (fun ps z => nomatch z)⟩
  · by_cases z : b = a
    · rw [z, upd_same] at h
      cases h
      rw [z]
      exact e _ _ h2
    · rw [upd_ne z] at h
      cases h
  · have nda : d ≠ a := fun z => by
      rw [z, h2] at n
      cases n
    rw [upd_ne nda]
theorem Dr.lst {H0 H : Hp} {d : Addr} (x : Dr H0 H d) : ∃ xs, H d = some (.lst xs) := by
  obtain ⟨⟨a, ns, i, j, k, l, h1, _⟩, _⟩ := x
  exact ⟨_, h1⟩
/-- across a drawing step -/
theorem tabs_go {T : List (Addr × Str)} {H0 H H0' H' : Hp} {d : Addr} (t : Tabs T H) (x : Dr H0 H d) (g : Go (· = d) H0 H H0' H') : Tabs T H' := by
  obtain ⟨xs, hd⟩ := x.lst
  exact tabs_but t hd fun b o h n => g.keep b o h n
theorem tabs_new {T : List (Addr × Str)} {H : Hp} {p : Addr} {o : HO} (t : Tabs T H) (h : H p = none) : Tabs T (upd H p o) := t.ext fun b u e => by
  rw [upd_ne (ne_of_none e h)]
  exact e
end Rt

namespace Rt
open PySem PySem.Spec PyProof.Rows L2 LamX
/-- all that is read off the written part of an error's class -/
structure ErrF (K : PySem.W.Frag) (x z word : Str) (C CT CM fI : Addr) (tape : Bool) : Prop where
  g : PySem.W.nsIn K mainGlobals x = some (some (.ref C))
  gT : PySem.W.nsIn K mainGlobals "TapeError" = some (some (.ref CT))
  gM : PySem.W.nsIn K mainGlobals "MissingError" = some (some (.ref CM))
  cls : ∃ nm q N bs bm sn sub ab col dd k0 k1 k2 k3 k5, K.lookup C = some (excClassObj nm q C N bs bm true sn sub ab col dd k0 k1 k2 k3 k5 "ValueError.__new__") ∧ PySem.HandSPX.refsVE bm = true
  nm : ∃ o tk, K.lookup C = some o ∧ (o.slots[2]?).join = some (.str z tk)
  sa : PySem.W.findIn K (.ref C) "__setattr__" = some (some (.builtin "object.__setattr__"))
  exC : PySem.W.subIn K (.ref C) (.type "BaseException") = some true
  tyC : PySem.W.typeIn K (.ref C) = some (.type "type")
  kC : PySem.W.keepIn K (.ref C) = true
  ga : PySem.W.findIn K (.ref C) "__getattribute__" = some (some (.builtin "BaseException.__getattribute__"))
  gg : PySem.W.findIn K (.ref C) "__getattr__" = some none
  hd : PySem.W.hasDictIn K C = true
  ca : PySem.W.findIn K (.ref C) "__class__" = some (some (.builtin "object.__class__"))
  cg : PySem.W.specialIn K (.builtin "object.__class__") "__get__" = some (some (.builtin "getset_descriptor.__get__"))
  ct : PySem.W.takesIn K (.builtin "object.__class__") = some true
  mo : PySem.W.mroIn K C (.type "object") = some true
  rd : PySem.W.readsIn K C (.type "type") = true
  fc : PySem.W.findCls K (.ref C) (.type "type") "__name__" = some (.get (.builtin "getset_descriptor.__get__") (.builtin "type.__name__") (.ref C) (.type "type"))
  nc : PySem.W.findIn K (.ref C) "called" = some none
  iC : PySem.W.findIn K (.ref C) "__init__" = some (some (.ref fI))
  tI : PySem.W.typeIn K (.ref fI) = some (.type "function")
  t1 : PySem.W.subIn K (.ref CT) (.type "BaseException") = some true
  t2 : PySem.W.hasDictIn K CT = true
  t3 : PySem.W.typeIn K (.ref CT) = some (.type "type")
  t4 : PySem.W.subIn K (.ref C) (.ref CT) = some tape
  u1 : PySem.W.subIn K (.ref CM) (.type "BaseException") = some true
  u2 : PySem.W.hasDictIn K CM = true
  u3 : PySem.W.typeIn K (.ref CM) = some (.type "type")
  u4 : PySem.W.subIn K (.ref C) (.ref CM) = some (!tape)
  low : Txt.lower z = word
  sz : z.length ≤ 1000
theorem errF_of {K : PySem.W.Frag} {x z word : Str} {C CT CM fI : Addr} {tape : Bool} {nm q : Str} {N : Addr} {bs bm : List Value} {sn : List Str} {sub : List Value} {ab : Bool} {col : Option Bool} {dd : Option Addr} {k0 k1 k2 k3 k5 : Option Value} {o : Obj} {tk : Tok}
    (g : PySem.W.nsIn K mainGlobals x = some (some (.ref C)))
    (gT : PySem.W.nsIn K mainGlobals "TapeError" = some (some (.ref CT)))
    (gM : PySem.W.nsIn K mainGlobals "MissingError" = some (some (.ref CM)))
    (cls1 : K.lookup C = some (excClassObj nm q C N bs bm true sn sub ab col dd k0 k1 k2 k3 k5 "ValueError.__new__")) (cls2 : PySem.HandSPX.refsVE bm = true)
    (nm1 : K.lookup C = some o) (nm2 : (o.slots[2]?).join = some (.str z tk))
    (sa : PySem.W.findIn K (.ref C) "__setattr__" = some (some (.builtin "object.__setattr__")))
    (exC : PySem.W.subIn K (.ref C) (.type "BaseException") = some true)
    (tyC : PySem.W.typeIn K (.ref C) = some (.type "type"))
    (kC : PySem.W.keepIn K (.ref C) = true)
    (ga : PySem.W.findIn K (.ref C) "__getattribute__" = some (some (.builtin "BaseException.__getattribute__")))
    (gg : PySem.W.findIn K (.ref C) "__getattr__" = some none)
    (hd : PySem.W.hasDictIn K C = true)
    (ca : PySem.W.findIn K (.ref C) "__class__" = some (some (.builtin "object.__class__")))
    (cg : PySem.W.specialIn K (.builtin "object.__class__") "__get__" = some (some (.builtin "getset_descriptor.__get__")))
    (ct : PySem.W.takesIn K (.builtin "object.__class__") = some true)
    (mo : PySem.W.mroIn K C (.type "object") = some true)
    (rd : PySem.W.readsIn K C (.type "type") = true)
    (fc : PySem.W.findCls K (.ref C) (.type "type") "__name__" = some (.get (.builtin "getset_descriptor.__get__") (.builtin "type.__name__") (.ref C) (.type "type")))
    (nc : PySem.W.findIn K (.ref C) "called" = some none)
    (iC : PySem.W.findIn K (.ref C) "__init__" = some (some (.ref fI)))
    (tI : PySem.W.typeIn K (.ref fI) = some (.type "function"))
    (t1 : PySem.W.subIn K (.ref CT) (.type "BaseException") = some true)
    (t2 : PySem.W.hasDictIn K CT = true)
    (t3 : PySem.W.typeIn K (.ref CT) = some (.type "type"))
    (t4 : PySem.W.subIn K (.ref C) (.ref CT) = some tape)
    (u1 : PySem.W.subIn K (.ref CM) (.type "BaseException") = some true)
    (u2 : PySem.W.hasDictIn K CM = true)
    (u3 : PySem.W.typeIn K (.ref CM) = some (.type "type"))
    (u4 : PySem.W.subIn K (.ref C) (.ref CM) = some (!tape))
    (low : Txt.lower z = word)
    (sz : z.length ≤ 1000) : ErrF K x z word C CT CM fI tape := ⟨g, gT, gM, ⟨nm, q, N, bs, bm, sn, sub, ab, col, dd, k0, k1, k2, k3, k5, cls1, cls2⟩, ⟨o, tk, nm1, nm2⟩, sa, exC, tyC, kC, ga, gg, hd, ca, cg, ct, mo, rd, fc, nc, iC, tI, t1, t2, t3, t4, u1, u2, u3, u4, low, sz⟩
section
variable {P : Program} {w : World} {K : PySem.W.Frag} {mg : Str → Option Value} {base h : Heap} {x z word : Str} {C CT CM fI : Addr} {tape : Bool} {k : Nat} {fd : FuncData}
theorem ErrF.xf (F : ErrF K x z word C CT CM fI tape) : XfC K C := ⟨F.ga, F.gg, F.exC, F.hd⟩
theorem ErrF.err (F : ErrF K x z word C CT CM fI tape) (X : K.In h) (G : h.Ns mainGlobals mg) : Err K mg x C z word where
  g := PySem.W.mg_of X G F.g
  oex := ⟨F.cls, F.sa, F.exC, F.tyC, F.kC⟩
  cls := ⟨F.ga, F.gg, F.exC, F.hd, F.ca, F.cg, F.ct, F.mo⟩
  nmd := ⟨F.rd, F.fc, F.tyC, F.nm⟩
  nc := F.nc
  low := F.low
  sz := F.sz
theorem err_mk (F : ErrF K x z word C CT CM fI tape) (X : K.In h) (G : h.Ns mainGlobals mg) (ok : FnOk P w K mg base CX0 k fI fd ["self", "why"] (spInit K)) (b : Binds K fd ["self", "why"] []) : ErrK P w K mg base k x word tape :=
  ⟨C, CT, CM, fI, z, fd, F.err X G, F.iC, F.tI, ok, b, F.xf, PySem.W.mg_of X G F.gT, PySem.W.mg_of X G F.gM, PySem.W.exm_ref F.t1 F.t2 F.t3 F.t4, fun e => PySem.W.exm_ref F.u1 F.u2 F.u3 (by rw [F.u4, e]; rfl)⟩
end
/-- the end of a law whose def (and whose defs named in xs) hold lambdas -/
theorem walkT {l : PySem.W.OpenLaw} {n k : Nat} {q : Program} {loose : List Str} {XP : (Str → Option Value) → Heap → Prop} {YP : World → Heap → Prop} {d : DefRec} {K : Params → PySem.W.Frag} {CX : World → CXT} {x : Str}
    (hn : l.most = some n) (hn2 : n ≤ sizeLine) (hdf : d.params.defaults = []) (hr : Room k callerA) (hY : ∀ (w : World) (h : Heap), YP w h → (K w.params).In h)
    (F : ∀ (w : World) (mg : Str → Option Value) (fa : Addr) (h : Heap), (K w.params).In h → h.Ns mainGlobals mg → mg d.name = some (.ref fa) →
      (∀ (y : Str) (e : DefRec) (c t : Addr), (recsOf q).find? (fun r => r.name == y) = some e → PySem.W.tabIn (K w.params) y = some (c, t) → PySem.W.CodeHd h c t ∧ h.get? t = some { cls := .none, data := .fields #[] }) → LawAtS l w (K w.params) (CX w) k n x mg fa h)
    (hCX : ∀ (w : World) (H : Hp) (s : Shared) (e : Value) (s' : Shared), CX w [] H s (fun _ _ _ => False) e s' → False) :
    PySem.W.WalkO q loose XP YP l.row.toRowW d [] (fun f vs => PySem.call f vs) := by
  refine Att.attach_callB hn hdf fun w s₀ s₁ mg mb fa o pm cd doc a vs ns G Y ho hd hcd hmg hobj hints hlen hbits hg => ?_
  have KX := hY w _ Y
  obtain ⟨fd, cs, sp, hT, nT, C, hb, hsp, hF⟩ := F w mg fa _ KX G.T.g hmg fun y e c t h1 h2 => PySem.W.tab_of G.T KX h1 h2
  exact law_callTs KX G.T.g G.T.b G.T.builtins G.T.nolimit hg hT nT C G.T.bmain hobj hints (Nat.le_trans hlen hn2) hr hF hb (fun H hH hS => hsp H a ns hlen hbits hH hS) fun H e s' => hCX w H s₁ e s'
end Rt

namespace Rt
open PySem PySem.Spec PyProof.Rows L2 LamX
/-! ### a function read off a class of the program and called: C.m(self, ..) -/
/-- m of the class that x names is the function at f -/
structure Off (K : PySem.W.Frag) (mg : Str → Option Value) (x m : Str) (f : Addr) : Prop where
  ex : ∃ C : Addr, mg x = some (.ref C) ∧ PySem.W.specialIn K (.ref C) "__getattribute__" = some (some (.builtin "type.__getattribute__")) ∧ PySem.W.readsIn K C (.type "type") = true ∧ PySem.W.findCls K (.ref C) (.type "type") m = some (.val (.ref f))
section
variable {X : Cx} {x m : Str} {f : Addr} {fd : FuncData} {ps : List Str} {p1 p2 pos : Pos} {e : Expr} {es : List Expr} {t : TA} {k : Nat} {sp : Sp} {pl : Sem Bool}
theorem pe_off (O : Off X.K X.mg x m f) (F : FnOk X.prog X.w X.K X.mg X.base CX0 k f fd ps sp) (hr : Room k X.A) (hg : Gl X x) (hk : PySem.W.keepIn X.K (.ref f) = true) (hb : Binds X.K fd ps []) (ha : PA X (e :: es) t)
    (hc : eval (.Call (.Attribute (.Name x p1) m p2) (e :: es) [] pos) X.env = (do
      let ov ← eval (.Name x p1) X.env
      standAt p2.atName
      let (f, first) ← holding [ov] (getMethod ov m pl)
      callWith pos f first (backTo pos (starEach (e :: es) X.env)) (backToKw pos (keywordEach [] X.env))) := by rfl)
    (hdb : (x == ("__debug__" : Str)) = false := by decide) (he : starEach (e :: es) X.env = (false, eval e X.env) :: starEach es X.env := by rfl) (hpl : (backTo pos (starEach es X.env)).any (·.1) = false := by rfl) :
    PE X (.Call (.Attribute (.Name x p1) m p2) (e :: es) [] pos) (tCall sp [] E0 t) := by
  obtain ⟨C, hm, sG, rd, fc⟩ := O.ex
  refine ⟨fun pins s σ H Q I h => ?_⟩
  refine PySem.W.methodCall_KW (ld_glob I hg hm ?_ hdb) hc
  refine PySem.W.method_cls I.kIn sG (PySem.W.cls_value I.kIn rd fc rfl ?_)
  refine PySem.W.callWith_K (h₀ := X.base) I.ok.mod.kin hk (thn (ha.run pos pins _ σ H _ (I.tok _) h) fun us s1 ⟨vs, H1, I1, r, q⟩ => ⟨I1.kIn, ?_⟩) he hpl
  exact run_fn F hr hb .nil pass0 I1 r q
end
/-! ### BadBytes: an error with its place -/
/-- BadBytes.__init__ -/
def spInitAt (K : PySem.W.Frag) : Sp := fun vs H Q _ => ∃ (a C : Addr) (n : Int) (z : Str), vs = [.ref a, .int n] ∧ n.natAbs < 10 ^ 20 ∧ OexC K C ∧ ClsE K C ∧ Nmd K C z ∧ PySem.W.findIn K (.ref C) "called" = some none ∧ PySem.W.findIn K (.ref C) "at" = some none ∧ z.length ≤ 1000 ∧ H a = some (exo a C none) ∧
  ∀ dx, H dx = none → dx ≠ a → Q .non (upd (upd (upd H dx (exd dx [("called", .str (Txt.lower z))])) a (exo a C (some dx))) dx (exd dx [("at", .int n), ("called", .str (Txt.lower z))]))
/-- BadBytes in flight, its place n -/
structure RaisedA (K : PySem.W.Frag) (mg : Str → Option Value) (x word : Str) (n : Int) (H : Hp) (cls : Value) (d : Option Addr) (H' : Hp) : Prop where
  ex : ∃ (C dd : Addr), mg x = some (.ref C) ∧ cls = .ref C ∧ d = some dd ∧ H dd = none ∧ H' = upd H dd (.xd [("at", .int n), ("called", .str word)]) ∧ XfC K C ∧ PySem.W.findIn K (.ref C) "called" = some none ∧ PySem.W.findIn K (.ref C) "at" = some none
structure ErrA (P : Program) (w : World) (K : PySem.W.Frag) (mg : Str → Option Value) (base : Heap) (k : Nat) (x word : Str) : Prop where
  ex : ∃ (C fI : Addr) (z : Str) (fd : FuncData), Err K mg x C z word ∧ PySem.W.findIn K (.ref C) "__init__" = some (some (.ref fI)) ∧ PySem.W.typeIn K (.ref fI) = some (.type "function") ∧
    FnOk P w K mg base CX0 k fI fd ["self", "at"] (spInitAt K) ∧ Binds K fd ["self", "at"] [] ∧ XfC K C ∧ PySem.W.findIn K (.ref C) "at" = some none
def tRaiseA (K : PySem.W.Frag) (mg : Str → Option Value) (x word : Str) (W : WX) (ta : TA) : TS := fun _ σ H => ta σ H fun vs H1 => ∃ n : Int, vs = [.int n] ∧ n.natAbs < 10 ^ 20 ∧ ∀ cls d H', RaisedA K mg x word n H1 cls d H' → W cls d σ H'
section
variable {X : Cx} {x word : Str} {k : Nat} {e : Expr} {es : List Expr} {ta : TA} {W : WX} {p pos pos2 : Pos}
theorem ps_raiseA (hc : X.calm = true) (T : ErrA X.prog X.w X.K X.mg X.base k x word) (hr : Room (k + 1) X.A) (tk : Takes X W) (hg : Gl X x) (ha : PA X (e :: es) ta) (hdb : (x == ("__debug__" : Str)) = false := by decide)
    (he : starEach (e :: es) X.env = (false, eval e X.env) :: starEach es X.env := by rfl) (hpl : (backTo pos (starEach es X.env)).any (·.1) = false := by rfl) :
    PS X (.Raise (some (.Call (.Name x p) (e :: es) [] pos)) none pos2) (tRaiseA X.K X.mg x word W ta) := by
  obtain ⟨C, fI, z, fd, R, iC, tI, F1, hb, xf, na⟩ := T.ex
  have mk := pmk_oex (X := X) (CX := CX0) (p := p) (pos := pos) R.oex iC tI F1 hr hb .nil pass0 hg R.g (pa_up ha) hdb he hpl
  have rs := ps_raise (pos := pos2) hc tk mk
  refine ⟨fun pins s σ H D I h => rs.run pins s σ H D I ?_⟩
  have imp : ∀ (vs : List V) (H1 : Hp), (∃ n : Int, vs = [.int n] ∧ n.natAbs < 10 ^ 20 ∧ ∀ cls d H', RaisedA X.K X.mg x word n H1 cls d H' → W cls d σ H') →
      vs.length ≤ 1000 ∧ ∀ a, H1 a = none → spInitAt X.K (.ref a :: (vs ++ [])) (upd H1 a (exo a C none))
        (fun v H2 => v = .non ∧ ∃ (d : Addr) (fs : List (Str × V)), H2 a = some (exo a C (some d)) ∧ H2 d = some (exd d fs) ∧ H1 d = none ∧ W (.ref C) (some d) σ (upd (del H2 a) d (.xd fs))) (fun _ _ _ => False) := by
    rintro vs H1 ⟨n, rfl, hn, q⟩
    refine ⟨(by show 1 ≤ 1000; decide), fun a ha => ⟨a, C, n, z, rfl, hn, R.oex, R.cls, R.nmd, R.nc, na, R.sz, upd_same, fun dx hdx nda => ⟨rfl, dx, [("at", .int n), ("called", .str (Txt.lower z))], ?_, upd_same, ?_, ?_⟩⟩⟩
    · rw [upd_ne nda.symm, upd_same]
    · rw [upd_ne nda] at hdx
      exact hdx
    · rw [upd_ne nda] at hdx
      refine q _ _ _ ⟨C, dx, R.g, rfl, rfl, hdx, ?_, xf, R.nc, na⟩
      funext b
      by_cases e1 : b = dx
      · rw [e1, upd_same, upd_same, R.low]
      · rw [upd_ne e1, upd_ne e1]
        by_cases e2 : b = a
        · rw [e2, del_same, ha]
        · rw [del_ne e2, upd_ne e1, upd_ne e2, upd_ne e1, upd_ne e2]
  exact ⟨_, h, imp⟩
end
/-- a def that may let an error out, called with fewer values than it has parameters -/
structure DefXd (P : Program) (w : World) (K : PySem.W.Frag) (mg : Str → Option Value) (base : Heap) (x : Str) (k : Nat) (sp : Sp) (dvs : List V) : Prop where
  ex : ∃ (f : Addr) (fd : FuncData) (ps : List Str) (ds : List Value), mg x = some (.ref f) ∧ FnOk P w K mg base (L2.CX P w) k f fd ps sp ∧ PySem.W.keepIn K (.ref f) = true ∧ Binds K fd ps ds ∧ Vals dvs ds
section
variable {X : Cx} {x : Str} {p pos : Pos} {e : Expr} {es : List Expr} {t : TA} {k : Nat} {sp : Sp} {W : WX} {dvs : List V}
theorem pe_dxd (D : DefXd X.prog X.w X.K X.mg X.base x k sp dvs) (hr : Room k X.A) (hg : Gl X x) (tk : Takes X W) (ha : PA X (e :: es) t) (hdb : (x == ("__debug__" : Str)) = false := by decide)
    (he : starEach (e :: es) X.env = (false, eval e X.env) :: starEach es X.env := by rfl) (hpl : (backTo pos (starEach es X.env)).any (·.1) = false := by rfl) :
    PE X (.Call (.Name x p) (e :: es) [] pos) (tCallSD sp dvs (WE W) t) := by
  obtain ⟨f, fd, ps, ds, h1, h2, h3, h4, h5⟩ := D.ex
  exact pe_callSD h2 hr hg h1 h3 h4 h5 (fun σ => passAt tk σ) ha hdb he hpl
end
/-- a reading with room -/
def tUpE (te : TE) : TE := fun σ H Q => ∃ R : V → Hp → Prop, te σ H R ∧ ∀ v H1, R v H1 → Q v H1
theorem pe_up {X : Cx} {e : Expr} {te : TE} (h : PE X e te) : PE X e (tUpE te) := ⟨fun pins s σ H Q I ⟨R, h', imp⟩ => thn (h.run pins s σ H R I h') fun u s1 ⟨v, H1, I1, r, q⟩ => ⟨v, H1, I1, r, imp v H1 q⟩⟩
/-! ### lists of numbers as data -/
theorem dp_nums {K : PySem.W.Frag} {H : Hp} : ∀ l : List Nat, DpAll K H (nums l) (l.map fun (n : Nat) => PyData.int (n : Int))
  | [] => .nil
  | n :: l => .cons (.int _) (dp_nums l)
theorem depth_ints : ∀ l : List Nat, PyData.depthAll (l.map fun (n : Nat) => PyData.int (n : Int)) = 0
  | [] => rfl
  | n :: l => by
    show max 0 (PyData.depthAll (l.map fun (n : Nat) => PyData.int (n : Int))) = 0
    rw [depth_ints l]
    rfl
theorem sm_ints : ∀ l : List Nat, smAll (l.map fun (n : Nat) => PyData.int (n : Int))
  | [] => True.intro
  | n :: l => ⟨True.intro, sm_ints l⟩
def numsD (l : List Nat) : PyData := .list (l.map fun (n : Nat) => PyData.int (n : Int))
theorem numsD_shaped (l : List Nat) : SeqAt.shaped (numsD l) = true := by
  have h := PySem.W.ke_shaped_ints (l.map fun (n : Nat) => (n : Int))
  rw [List.map_map] at h
  exact h
theorem numsD_eq (l : List Nat) : PyData.eqv (numsD l) (numsD l) = true := SeqAt.eqv_refl _ (SeqAt.canLay_of_shaped (numsD_shaped l))
/-- what is settled, without the tables -/
def clean (H0 : Hp) : Hp := fun b => match H0 b with
  | some (.tbl _) => none
  | o => o
theorem clean_at {H0 : Hp} {p : Addr} {o : HO} (h : H0 p = some o) (n : ∀ ps, o ≠ .tbl ps) : clean H0 p = some o := by
  unfold clean
  rw [h]
  split
  · rename_i ps e
    exact absurd (Option.some.inj e) (n ps)
  · rfl
theorem clean_le {H0 : Hp} {p : Addr} {o : HO} (h : clean H0 p = some o) : H0 p = some o := by
  unfold clean at h
  split at h
  · cases h
  · exact h
theorem clean_no (H0 : Hp) : NoTab (clean H0) := fun b ps z => by
  have h := clean_le z
  unfold clean at z
  rw [h] at z
  cases z
theorem clean_ex {H0 H : Hp} (e : Ex H0 H) : Ex (clean H0) H := fun b o h => e b o (clean_le h)
theorem clean_dr {H0 H : Hp} {d : Addr} (x : Dr H0 H d) : Dr (clean H0) H d := by
  obtain ⟨⟨a, ns, i, j, k, l, h1, h2, h3⟩, n⟩ := x
  refine ⟨⟨a, ns, i, j, k, l, h1, clean_at h2 (fun ps z => nomatch z), h3⟩, ?_⟩
  cases e : clean H0 d with
  | none => rfl
  | some o =>
    have := clean_le e
    rw [n] at this
    cases this
/-- all that is read off an error's class, whatever else it is under -/
structure ErrG (K : PySem.W.Frag) (x z word : Str) (C fI : Addr) : Prop where
  g : PySem.W.nsIn K mainGlobals x = some (some (.ref C))
  cls : ∃ nm q N bs bm sn sub ab col dd k0 k1 k2 k3 k5, K.lookup C = some (excClassObj nm q C N bs bm true sn sub ab col dd k0 k1 k2 k3 k5 "ValueError.__new__") ∧ PySem.HandSPX.refsVE bm = true
  nm : ∃ o tk, K.lookup C = some o ∧ (o.slots[2]?).join = some (.str z tk)
  sa : PySem.W.findIn K (.ref C) "__setattr__" = some (some (.builtin "object.__setattr__"))
  exC : PySem.W.subIn K (.ref C) (.type "BaseException") = some true
  tyC : PySem.W.typeIn K (.ref C) = some (.type "type")
  kC : PySem.W.keepIn K (.ref C) = true
  ga : PySem.W.findIn K (.ref C) "__getattribute__" = some (some (.builtin "BaseException.__getattribute__"))
  gg : PySem.W.findIn K (.ref C) "__getattr__" = some none
  hd : PySem.W.hasDictIn K C = true
  ca : PySem.W.findIn K (.ref C) "__class__" = some (some (.builtin "object.__class__"))
  cg : PySem.W.specialIn K (.builtin "object.__class__") "__get__" = some (some (.builtin "getset_descriptor.__get__"))
  ct : PySem.W.takesIn K (.builtin "object.__class__") = some true
  mo : PySem.W.mroIn K C (.type "object") = some true
  rd : PySem.W.readsIn K C (.type "type") = true
  fc : PySem.W.findCls K (.ref C) (.type "type") "__name__" = some (.get (.builtin "getset_descriptor.__get__") (.builtin "type.__name__") (.ref C) (.type "type"))
  nc : PySem.W.findIn K (.ref C) "called" = some none
  iC : PySem.W.findIn K (.ref C) "__init__" = some (some (.ref fI))
  tI : PySem.W.typeIn K (.ref fI) = some (.type "function")
  se : PySem.W.subIn K (.ref C) (.ref C) = some true
  low : Txt.lower z = word
  sz : z.length ≤ 1000
theorem errG_of {K : PySem.W.Frag} {x z word : Str} {C fI : Addr} {nm q : Str} {N : Addr} {bs bm : List Value} {sn : List Str} {sub : List Value} {ab : Bool} {col : Option Bool} {dd : Option Addr} {k0 k1 k2 k3 k5 : Option Value} {o : Obj} {tk : Tok}
    (g : PySem.W.nsIn K mainGlobals x = some (some (.ref C)))
    (cls1 : K.lookup C = some (excClassObj nm q C N bs bm true sn sub ab col dd k0 k1 k2 k3 k5 "ValueError.__new__")) (cls2 : PySem.HandSPX.refsVE bm = true)
    (nm1 : K.lookup C = some o) (nm2 : (o.slots[2]?).join = some (.str z tk))
    (sa : PySem.W.findIn K (.ref C) "__setattr__" = some (some (.builtin "object.__setattr__")))
    (exC : PySem.W.subIn K (.ref C) (.type "BaseException") = some true)
    (tyC : PySem.W.typeIn K (.ref C) = some (.type "type"))
    (kC : PySem.W.keepIn K (.ref C) = true)
    (ga : PySem.W.findIn K (.ref C) "__getattribute__" = some (some (.builtin "BaseException.__getattribute__")))
    (gg : PySem.W.findIn K (.ref C) "__getattr__" = some none)
    (hd : PySem.W.hasDictIn K C = true)
    (ca : PySem.W.findIn K (.ref C) "__class__" = some (some (.builtin "object.__class__")))
    (cg : PySem.W.specialIn K (.builtin "object.__class__") "__get__" = some (some (.builtin "getset_descriptor.__get__")))
    (ct : PySem.W.takesIn K (.builtin "object.__class__") = some true)
    (mo : PySem.W.mroIn K C (.type "object") = some true)
    (rd : PySem.W.readsIn K C (.type "type") = true)
    (fc : PySem.W.findCls K (.ref C) (.type "type") "__name__" = some (.get (.builtin "getset_descriptor.__get__") (.builtin "type.__name__") (.ref C) (.type "type")))
    (nc : PySem.W.findIn K (.ref C) "called" = some none)
    (iC : PySem.W.findIn K (.ref C) "__init__" = some (some (.ref fI)))
    (tI : PySem.W.typeIn K (.ref fI) = some (.type "function"))
    (se : PySem.W.subIn K (.ref C) (.ref C) = some true)
    (low : Txt.lower z = word)
    (sz : z.length ≤ 1000) : ErrG K x z word C fI := ⟨g, ⟨nm, q, N, bs, bm, sn, sub, ab, col, dd, k0, k1, k2, k3, k5, cls1, cls2⟩, ⟨o, tk, nm1, nm2⟩, sa, exC, tyC, kC, ga, gg, hd, ca, cg, ct, mo, rd, fc, nc, iC, tI, se, low, sz⟩
section
variable {P : Program} {w : World} {K : PySem.W.Frag} {mg : Str → Option Value} {base h : Heap} {x z word : Str} {C fI CT : Addr} {k : Nat} {fd : FuncData}
theorem ErrG.xf (F : ErrG K x z word C fI) : XfC K C := ⟨F.ga, F.gg, F.exC, F.hd⟩
theorem ErrG.err (F : ErrG K x z word C fI) (X : K.In h) (G : h.Ns mainGlobals mg) : Err K mg x C z word where
  g := PySem.W.mg_of X G F.g
  oex := ⟨F.cls, F.sa, F.exC, F.tyC, F.kC⟩
  cls := ⟨F.ga, F.gg, F.exC, F.hd, F.ca, F.cg, F.ct, F.mo⟩
  nmd := ⟨F.rd, F.fc, F.tyC, F.nm⟩
  nc := F.nc
  low := F.low
  sz := F.sz
theorem ErrG.self (F : ErrG K x z word C fI) : PySem.W.exmOne K (.ref C) (.ref C) = some true := PySem.W.exm_ref F.exC F.hd F.tyC F.se
theorem errA_mk (F : ErrG K x z word C fI) (na : PySem.W.findIn K (.ref C) "at" = some none) (X : K.In h) (G : h.Ns mainGlobals mg) (ok : FnOk P w K mg base CX0 k fI fd ["self", "at"] (spInitAt K)) (b : Binds K fd ["self", "at"] []) : ErrA P w K mg base k x word :=
  ⟨C, fI, z, fd, F.err X G, F.iC, F.tI, ok, b, F.xf, na⟩
end
end Rt

namespace Rt
open PySem PySem.Spec PyProof.Rows L2 RZ
/-! ### events: what is good -/
def withinV (v : V) (lo hi : Int) : Bool := match v with
  | .int z => decide (lo ≤ z) && decide (z ≤ hi)
  | _ => false
def signsS : Str := "abcdefghijklmnopqrstuvwxyz0123456789 "
def textOk (v : V) : Bool := match v with
  | .str s => decide (s.length ≤ 12) && s.cps.toList.all (fun c => decide (c ∈ signsS.cps.toList))
  | _ => false
def wordB (w : Str) : Option (List (Int × Int)) :=
  if w = "on" then some [(0, 15), (0, 127), (1, 127)] else if w = "off" then some [(0, 15), (0, 127), (0, 127)] else if w = "knob" then some [(0, 15), (0, 127), (0, 127)] else if w = "voice" then some [(0, 15), (0, 127)] else none
def withinAll : List V → List (Int × Int) → Bool
  | [], [] => true
  | v :: vs, b :: bs => withinV v b.1 b.2 && withinAll vs bs
  | _, _ => false
def markOk : List V → Bool
  | [x] => textOk x
  | _ => false
def wordOk (o : Option (List (Int × Int))) (r : List V) : Bool := match o with
  | some bs => withinAll r bs
  | none => false
def thingOk : List V → Bool
  | .str w :: r => if w = "mark" then markOk r else wordOk (wordB w) r
  | _ => false
theorem thing_mark (r : List V) : thingOk (.str "mark" :: r) = markOk r := by
  show (if ("mark" : Str) = "mark" then markOk r else wordOk (wordB "mark") r) = _
  rw [if_pos rfl]
theorem thing_word {z : Str} (h : ¬ z = "mark") (r : List V) : thingOk (.str z :: r) = wordOk (wordB z) r := by
  show (if z = "mark" then markOk r else wordOk (wordB z) r) = _
  rw [if_neg h]
theorem wordB_len {z : Str} {bs : List (Int × Int)} (hb : wordB z = some bs) : bs.length ≤ 10 := by
  unfold wordB at hb
  split at hb
  · cases hb; decide
  split at hb
  · cases hb; decide
  split at hb
  · cases hb; decide
  split at hb
  · cases hb; decide
  · cases hb
def isEv : List V → Bool
  | t :: r => withinV t 0 999999 && thingOk r
  | [] => false
/-- a number or a text of moderate size -/
def Scal (v : V) : Prop := (∃ z, v = .int z) ∨ ∃ s : Str, v = .str s ∧ s.length ≤ 1000
theorem withinAll_len : ∀ (vs : List V) (bs : List (Int × Int)), withinAll vs bs = true → vs.length = bs.length
  | [], [], _ => rfl
  | v :: vs, b :: bs, h => by
    have h' : (withinV v b.1 b.2 && withinAll vs bs) = true := h
    rw [Bool.and_eq_true] at h'
    rw [List.length_cons, List.length_cons, withinAll_len vs bs h'.2]
  | [], b :: bs, h => nomatch h
  | v :: vs, [], h => nomatch h
theorem withinAll_zip : ∀ (vs : List V) (bs : List (Int × Int)), vs.length = bs.length → withinAll vs bs = (vs.zip bs).all fun p => withinV p.1 p.2.1 p.2.2
  | [], [], _ => rfl
  | v :: vs, b :: bs, h => by
    show (withinV v b.1 b.2 && withinAll vs bs) = (withinV v b.1 b.2 && (vs.zip bs).all _)
    rw [withinAll_zip vs bs (by simpa using h)]
  | [], b :: bs, h => by simp at h
  | v :: vs, [], h => by simp at h
/-! ### `in` of a written dict with text keys, for numbers too -/
theorem mapOfM_K {prog : Program} {w : World} {K : PySem.W.Frag} {h : Heap} {a : Addr} {es : Array DictEntry} {n : Nat} (X : K.In h) (hl : K.lookup a = some ⟨.type "dict", none, .dict es n, #[]⟩) (hk : PySem.W.KeysLit w.params es.toList) :
    h.MapOf (mixKind prog w) a (fun k => findBy keyIs es k) :=
  ⟨_, es, n, X _ _ hl, ⟨rfl, rfl, rfl⟩, rfl, fun e he => by
    obtain ⟨x, t, e1, e2⟩ := hk.all e (Array.mem_toList_iff.mpr he)
    exact ⟨.inr x, by rw [e1]; exact keyIs_str x t, e2⟩, fun _ => rfl⟩
theorem findM_int {P : Params} {es : Array DictEntry} (hk : PySem.W.KeysLit P es.toList) (i : Int) : findBy keyIs es (.inl i) = none := by
  obtain ⟨l⟩ := es
  unfold findBy
  rw [List.find?_toArray]
  have : l.find? (fun d => keyIs (.inl i) d.key) = none := List.find?_eq_none.mpr fun e he => by
    obtain ⟨x, t, e1, _⟩ := hk.all e he
    rw [e1]
    simp [keyIs, Value.isInt]
  rw [this]
  rfl
theorem findM_str {es : Array DictEntry} (x : Str) : findBy keyIs es (.inr x) = findBy Value.isStrOf es x := rfl
def rInM (K : PySem.W.Frag) (w : World) : R2 := fun x y H Q => ∃ d es n, y = .ref d ∧ K.lookup d = some ⟨.type "dict", none, .dict es n, #[]⟩ ∧ PySem.W.KeysLit w.params es.toList ∧ (d == sysModules) = false ∧
  ((∃ i, x = .int i ∧ Q (.bl false) H) ∨ ∃ z r, x = .str z ∧ PySem.W.nsIn K d z = some r ∧ Q (.bl r.isSome) H)
theorem op_inM {X : Cx} : OpR X (compareOp .In) (rInM X.K X.w) := by
  intro pins s σ H x y v u Q I rx ry h
  obtain ⟨d, es, n, rfl, hl, hk, low, h⟩ := h
  cases ry
  have hm := mapOfM_K (prog := X.prog) (w := X.w) I.kIn hl hk
  rcases h with ⟨i, rfl, q⟩ | ⟨z, r, rfl, e, q⟩
  · obtain ⟨t, rfl⟩ := rx
    refine wpAny_in_of (knd := mixKind X.prog X.w) (k := .inl i) (keyIs_int i t) low hm ?_
    rw [findM_int hk]
    exact ⟨.bl false, H, I.tok _, rfl, q⟩
  · obtain ⟨t, rfl⟩ := rx
    refine wpAny_in_of (knd := mixKind X.prog X.w) (k := .inr z) (keyIs_str z t) low hm ?_
    rw [findM_str, PySem.W.find_K hl e]
    exact ⟨.bl r.isSome, H, I.tok _, rfl, q⟩
/-! ### the program's table of bounds -/
/-- at v: a written tuple of pairs -/
def PrsK (K : PySem.W.Frag) (v : Addr) (bs : List (Int × Int)) : Prop := ∃ ps : List Addr, (∀ H, SqT K H v (ps.map V.ref)) ∧ ps.length = bs.length ∧ ∀ (i : Nat) (p : Addr) (b : Int × Int), ps[i]? = some p → bs[i]? = some b → ∀ H, SqT K H p [.int b.1, .int b.2]
structure BoundsK (K : PySem.W.Frag) (w : World) (d : Addr) : Prop where
  at_ : ∃ es n, K.lookup d = some ⟨.type "dict", none, .dict es n, #[]⟩ ∧ PySem.W.KeysLit w.params es.toList ∧ (d == sysModules) = false
  no : ∀ z, wordB z = none → PySem.W.nsIn K d z = some none
  yes : ∀ z bs, wordB z = some bs → ∃ v, PySem.W.nsIn K d z = some (some (.ref v)) ∧ PrsK K v bs
theorem sqt_K {K : PySem.W.Frag} {v : Addr} {od : Option Addr} {xs : List V} {its : Array Value} {n : Nat} {sl : Array (Option Value)} (l : K.lookup v = some ⟨.type "tuple", od, .seq its n, sl⟩) (hz : its.size ≤ 1000) (r : Vals xs its.toList) (H : Hp) : SqT K H v xs :=
  .inr ⟨_, its, n, l, rfl, rfl, mem_sz (Nat.le_trans hz (by decide)), r⟩
theorem pr_K {K : PySem.W.Frag} {v : Addr} {od : Option Addr} {a b : Int} {t u : Tok} {n : Nat} {sl : Array (Option Value)} (l : K.lookup v = some ⟨.type "tuple", od, .seq #[.int a t, .int b u] n, sl⟩) (H : Hp) : SqT K H v [.int a, .int b] :=
  sqt_K (xs := [.int a, .int b]) l (by show 2 ≤ 1000; decide) (.cons ⟨_, rfl⟩ (.cons ⟨_, rfl⟩ .nil)) H
theorem prs3_K {K : PySem.W.Frag} {v p1 p2 p3 : Addr} {od : Option Addr} {n : Nat} {sl : Array (Option Value)} {b1 b2 b3 : Int × Int} (l : K.lookup v = some ⟨.type "tuple", od, .seq #[.ref p1, .ref p2, .ref p3] n, sl⟩) (h1 : ∀ H, SqT K H p1 [.int b1.1, .int b1.2]) (h2 : ∀ H, SqT K H p2 [.int b2.1, .int b2.2]) (h3 : ∀ H, SqT K H p3 [.int b3.1, .int b3.2]) :
    PrsK K v [b1, b2, b3] := ⟨[p1, p2, p3], fun H => sqt_K (xs := [V.ref p1, V.ref p2, V.ref p3]) l (by show 3 ≤ 1000; decide) (.cons rfl (.cons rfl (.cons rfl .nil))) H, rfl, fun i p b hp hb => by
      match i, hp, hb with
      | 0, hp, hb => cases hp; cases hb; exact h1
      | 1, hp, hb => cases hp; cases hb; exact h2
      | 2, hp, hb => cases hp; cases hb; exact h3
      | i + 3, hp, hb => simp at hp⟩
theorem prs2_K {K : PySem.W.Frag} {v p1 p2 : Addr} {od : Option Addr} {n : Nat} {sl : Array (Option Value)} {b1 b2 : Int × Int} (l : K.lookup v = some ⟨.type "tuple", od, .seq #[.ref p1, .ref p2] n, sl⟩) (h1 : ∀ H, SqT K H p1 [.int b1.1, .int b1.2]) (h2 : ∀ H, SqT K H p2 [.int b2.1, .int b2.2]) :
    PrsK K v [b1, b2] := ⟨[p1, p2], fun H => sqt_K (xs := [V.ref p1, V.ref p2]) l (by show 2 ≤ 1000; decide) (.cons rfl (.cons rfl .nil)) H, rfl, fun i p b hp hb => by
      match i, hp, hb with
      | 0, hp, hb => cases hp; cases hb; exact h1
      | 1, hp, hb => cases hp; cases hb; exact h2
      | i + 2, hp, hb => simp at hp⟩
theorem bounds_mk {K : PySem.W.Frag} {w : World} {d : Addr} {n : Nat} {h1 h2 h3 h4 : Int} {t1 t2 t3 t4 : Tok} {v1 v2 v3 v4 : Addr}
    (l : K.lookup d = some ⟨.type "dict", none, .dict #[⟨h1, .str "on" t1, .ref v1⟩, ⟨h2, .str "off" t2, .ref v2⟩, ⟨h3, .str "knob" t3, .ref v3⟩, ⟨h4, .str "voice" t4, .ref v4⟩] n, #[]⟩)
    (k1 : h1 = PyData.keyHash w.params "on") (k2 : h2 = PyData.keyHash w.params "off") (k3 : h3 = PyData.keyHash w.params "knob") (k4 : h4 = PyData.keyHash w.params "voice") (low : (d == sysModules) = false)
    (n1 : PySem.W.nsIn K d "on" = some (some (.ref v1))) (n2 : PySem.W.nsIn K d "off" = some (some (.ref v2))) (n3 : PySem.W.nsIn K d "knob" = some (some (.ref v3))) (n4 : PySem.W.nsIn K d "voice" = some (some (.ref v4)))
    (p1 : PrsK K v1 [(0, 15), (0, 127), (1, 127)]) (p2 : PrsK K v2 [(0, 15), (0, 127), (0, 127)]) (p3 : PrsK K v3 [(0, 15), (0, 127), (0, 127)]) (p4 : PrsK K v4 [(0, 15), (0, 127)]) : BoundsK K w d where
  at_ := ⟨_, n, l, ⟨⟨_, _, rfl, k1⟩, ⟨_, _, rfl, k2⟩, ⟨_, _, rfl, k3⟩, ⟨_, _, rfl, k4⟩, True.intro⟩, low⟩
  no := fun z hz => by
    unfold wordB at hz
    by_cases e1 : z = "on"
    · rw [if_pos e1] at hz; cases hz
    rw [if_neg e1] at hz
    by_cases e2 : z = "off"
    · rw [if_pos e2] at hz; cases hz
    rw [if_neg e2] at hz
    by_cases e3 : z = "knob"
    · rw [if_pos e3] at hz; cases hz
    rw [if_neg e3] at hz
    by_cases e4 : z = "voice"
    · rw [if_pos e4] at hz; cases hz
    have ne : ∀ (x : Str) (t : Tok), z ≠ x → (Value.str x t).isStr z = false := fun x t h => by
      rw [PySem.W.isStr_of]
      cases e : Value.isStrOf z (.str x t) with
      | false => rfl
      | true =>
        obtain ⟨t', e'⟩ := Value.isStrOf_shape e
        injection e' with e1 _
        exact absurd e1.symm h
    unfold PySem.W.nsIn
    rw [l]
    simp only [List.find?_cons, ne _ _ e1, ne _ _ e2, ne _ _ e3, ne _ _ e4, List.find?_nil]
    rfl
  yes := fun z bs hz => by
    unfold wordB at hz
    by_cases e1 : z = "on"
    · rw [if_pos e1] at hz; cases hz; rw [e1]; exact ⟨v1, n1, p1⟩
    rw [if_neg e1] at hz
    by_cases e2 : z = "off"
    · rw [if_pos e2] at hz; cases hz; rw [e2]; exact ⟨v2, n2, p2⟩
    rw [if_neg e2] at hz
    by_cases e3 : z = "knob"
    · rw [if_pos e3] at hz; cases hz; rw [e3]; exact ⟨v3, n3, p3⟩
    rw [if_neg e3] at hz
    by_cases e4 : z = "voice"
    · rw [if_pos e4] at hz; cases hz; rw [e4]; exact ⟨v4, n4, p4⟩
    rw [if_neg e4] at hz
    cases hz
/-! ### comprehensions whose items are values and whose items' making changes nothing settled -/
/-- behind i items: the list at D holds f 0 .. f (i - 1) -/
def LcP (D : Addr) (H0 H : Hp) (f : Nat → V) (i : Nat) (H' : Hp) : Prop := H' D = some (.lst ((List.range i).map f)) ∧ Go (fun _ => False) H0 H H0 H'
theorem LcP.start {D : Addr} {H0 H H1 : Hp} {f : Nat → V} (g : Go (fun _ => False) H0 H H0 H1) (h : H1 D = none) : LcP D H0 H f 0 (upd H1 D (.lst [])) := ⟨upd_same, g.lay _ h⟩
theorem LcP.step {D : Addr} {H0 H H1 H' H2 : Hp} {f : Nat → V} {i : Nat} {y : V} (g1 : Go (fun _ => False) H0 H H0 H1) (hD : H1 D = none) (p : LcP D H0 H f i H') (hi : i ≤ 100000) (g : Go (fun _ => False) H0 H' H0 H2) (e : y = f i) :
    ∃ acc, H2 D = some (.lst acc) ∧ acc.length < sizeLine ∧ LcP D H0 H f (i + 1) (upd H2 D (.lst (acc ++ [y]))) := by
  refine ⟨_, g.keep _ _ p.1 (fun z => z), mem_lt (by rw [List.length_map, List.length_range]; omega), ?_, (p.2.then g).turn _ (g1.fresh hD) (g1.fresh0 hD)⟩
  rw [upd_same, List.range_succ, List.map_append, e]
  rfl
theorem map_range {α β : Type} (l : List α) (g : α → β) (f : Nat → β) (h : ∀ i a, l[i]? = some a → f i = g a) : (List.range l.length).map f = l.map g := by
  refine List.ext_getElem? fun i => ?_
  rw [List.getElem?_map, List.getElem?_map]
  by_cases hi : i < l.length
  · rw [List.getElem?_range hi, List.getElem?_eq_getElem hi]
    show some (f i) = some (g l[i])
    rw [h i _ (List.getElem?_eq_getElem hi)]
  · rw [List.getElem?_eq_none (l := l) (by omega), List.getElem?_eq_none (l := List.range l.length) (by rw [List.length_range]; omega)]
    rfl
/-- the signs of a text -/
theorem lc_str {x : Str} {g : TG} {tt : TT} {te : TE} {vs : List Nat} {σ : L2.St} {H1 : Hp} {D : Addr} {Qd : Hp → Prop} (Pv : Nat → Hp → Prop) (h0 : Pv 0 (upd H1 D (.lst [])))
    (hs : ∀ i c H, x.cps.toList[i]? = some c → Pv i H → g (.str ⟨#[c]⟩) (wipe σ vs) H fun σ2 H2 => wipe σ2 vs = wipe σ vs ∧ tt σ2 H2 fun b H3 =>
      if b = true then te σ2 H3 fun y H4 => ∃ acc, H4 D = some (.lst acc) ∧ acc.length < sizeLine ∧ Pv (i + 1) (upd H4 D (.lst (acc ++ [y]))) else Pv (i + 1) H3) (hd : ∀ H, Pv x.cps.toList.length H → Qd H) :
    ∃ W : Nat → Nat → Hp → Prop, (∃ m, W 0 m (upd H1 D (.lst []))) ∧ ∀ i m H, W i m H →
      ((Its x).stop i H ∧ Qd H) ∨ ((Its x).go i H ∧ ∃ Nx : Hp → Prop, (∀ H', Nx H' → ∃ m', m' < m ∧ W (i + 1) m' H') ∧ ∀ y H', (Its x).yld i H y H' → g y (wipe σ vs) H' fun σ2 H2 => wipe σ2 vs = wipe σ vs ∧ tt σ2 H2 fun b H3 =>
        if b = true then te σ2 H3 fun y H4 => ∃ acc, H4 D = some (.lst acc) ∧ acc.length < sizeLine ∧ Nx (upd H4 D (.lst (acc ++ [y]))) else Nx H3) := by
  refine ⟨fun i m H => m = x.cps.toList.length - i ∧ i ≤ x.cps.toList.length ∧ Pv i H, ⟨x.cps.toList.length, by simp, Nat.zero_le _, h0⟩, ?_⟩
  rintro i m H ⟨rfl, hi, p⟩
  have el : x.cps.toList.length = x.cps.size := Array.length_toList
  by_cases hlt : i < x.cps.toList.length
  · refine .inr ⟨(by show i < x.cps.size; omega), Pv (i + 1), fun H' p' => ⟨x.cps.toList.length - (i + 1), by omega, rfl, hlt, p'⟩, fun y H' hy => ?_⟩
    obtain ⟨rfl, c, hc, rfl⟩ := hy
    exact hs i c _ (by rw [Array.getElem?_toList]; exact hc) p
  · have e : i = x.cps.toList.length := by omega
    subst e
    exact .inl ⟨(by show x.cps.size ≤ _; omega), hd H p⟩
/-- zip of two tuples of like length -/
theorem lc_zipT {K : PySem.W.Frag} {a b : Addr} {xs ys : List V} {g : TG} {tt : TT} {te : TE} {vs : List Nat} {σ : L2.St} {H1 : Hp} {D : Addr} {Qd : Hp → Prop} (hl : xs.length = ys.length) (Pv : Nat → Hp → Prop) (h0 : Pv 0 (upd H1 D (.lst []))) (hq : ∀ i H, Pv i H → SqT K H a xs ∧ SqT K H b ys)
    (hs : ∀ (i : Nat) (x y : V) (T : Addr) (H : Hp), xs[i]? = some x → ys[i]? = some y → Pv i H → H T = none → g (.ref T) (wipe σ vs) (upd H T (.tup [x, y])) fun σ2 H2 => wipe σ2 vs = wipe σ vs ∧ tt σ2 H2 fun b H3 =>
      if b = true then te σ2 H3 fun y H4 => ∃ acc, H4 D = some (.lst acc) ∧ acc.length < sizeLine ∧ Pv (i + 1) (upd H4 D (.lst (acc ++ [y]))) else Pv (i + 1) H3) (hd : ∀ H, Pv xs.length H → Qd H) :
    ∃ W : Nat → Nat → Hp → Prop, (∃ m, W 0 m (upd H1 D (.lst []))) ∧ ∀ i m H, W i m H →
      ((ItzT K a b).stop i H ∧ Qd H) ∨ ((ItzT K a b).go i H ∧ ∃ Nx : Hp → Prop, (∀ H', Nx H' → ∃ m', m' < m ∧ W (i + 1) m' H') ∧ ∀ y H', (ItzT K a b).yld i H y H' → g y (wipe σ vs) H' fun σ2 H2 => wipe σ2 vs = wipe σ vs ∧ tt σ2 H2 fun b H3 =>
        if b = true then te σ2 H3 fun y H4 => ∃ acc, H4 D = some (.lst acc) ∧ acc.length < sizeLine ∧ Nx (upd H4 D (.lst (acc ++ [y]))) else Nx H3) := by
  refine ⟨fun i m H => m = xs.length - i ∧ i ≤ xs.length ∧ Pv i H, ⟨xs.length, by simp, Nat.zero_le _, h0⟩, ?_⟩
  rintro i m H ⟨rfl, hi, p⟩
  obtain ⟨qx, qy⟩ := hq i H p
  by_cases hlt : i < xs.length
  · have hx : xs[i]? = some xs[i] := List.getElem?_eq_getElem hlt
    have hlt2 : i < ys.length := by omega
    have hy : ys[i]? = some ys[i] := List.getElem?_eq_getElem hlt2
    refine .inr ⟨⟨xs, ys, _, _, qx, qy, hx, hy⟩, Pv (i + 1), fun H' p' => ⟨xs.length - (i + 1), by omega, rfl, hlt, p'⟩, fun v H' yl => ?_⟩
    obtain ⟨T, x, y, rfl, hT, rfl, fx, fy⟩ := yl
    exact hs i x y T H (fx xs qx) (fy ys qy) p hT
  · have e : i = xs.length := by omega
    subst e
    exact .inl ⟨⟨xs, ys, qx, qy, .inl (Nat.le_refl _)⟩, hd H p⟩
theorem upPut {G : Hp} {p b : Addr} {o u : HO} (n : G p = none) (h : G b = some u) : upd G p o b = some u := by
  rw [upd_ne (ne_of_none h n)]
  exact h
/-- a step from a larger settled heap is one from the smaller -/
theorem Go.down {E0 F0 E F G : Hp} (a : Go (fun _ => False) E0 E E0 F) (x : Ex E0 F0) (b : Go (fun _ => False) F0 F F0 G) : Go (fun _ => False) E0 E E0 G where
  up := Ex.refl _
  inn := x.trans b.inn
  new := fun _ _ h => h
  keep := fun c o h n => b.keep c o (a.keep c o h n) n
  there := fun c h => b.there c (a.there c h)
end Rt

namespace Rt
open PySem PySem.Spec PyProof.Rows L2 RZ TL
/-! ### a text, several times -/
theorem fold_rep (a : Array Nat) : ∀ (n : Nat) (acc : Array Nat), ((List.replicate n a).foldl (· ++ ·) acc).size = acc.size + a.size * n ∧ ∀ c ∈ ((List.replicate n a).foldl (· ++ ·) acc).toList, c ∈ acc.toList ∨ c ∈ a.toList
  | 0, acc => ⟨by simp, fun c h => .inl h⟩
  | n + 1, acc => by
    have ih := fold_rep a n (acc ++ a)
    rw [List.replicate_succ, List.foldl_cons]
    refine ⟨by rw [ih.1, Array.size_append, Nat.mul_succ]; omega, fun c h => ?_⟩
    rcases ih.2 c h with h | h
    · rw [Array.toList_append] at h
      exact List.mem_append.mp h
    · exact .inr h
def rRepS : R2 := fun x y H Q => ∃ (z : Str) (n : Nat), x = .str z ∧ y = .int (n : Int) ∧ z.length ≤ 1000 ∧ n ≤ 1000 ∧ ∀ w : Str, w.length = z.length * n → (∀ c ∈ w.cps.toList, c ∈ z.cps.toList) → Q (.str w) H
theorem op_repS {X : Cx} : OpR X (binaryOp .Mult) rRepS := by
  intro pins s σ H x y v u Q I rx ry h
  obtain ⟨z, n, rfl, rfl, hz, hn, q⟩ := h
  obtain ⟨t, rfl⟩ := rx
  obtain ⟨t2, rfl⟩ := ry
  have lim : z.length * n ≤ 1000 * 1000 := Nat.mul_le_mul hz hn
  refine PySem.P.mul_str ?_ (fun h1 _ => ?_) (fun h1 _ => ?_) ?_
  · rw [decide_eq_false (by omega), decide_eq_false (by omega)]
    rfl
  · have h2 : (1000 : Int) ≤ (2 ^ 63 - 1) / (n : Int) := by
      rw [Int.le_ediv_iff_mul_le (by omega)]
      omega
    omega
  · rw [show (n : Int).toNat = n by omega]
    exact decide_eq_false fun h => by
      have := mem_sz lim
      omega
  · by_cases h1 : (n : Int) < 1
    · rw [if_pos h1]
      have n0 : n = 0 := by omega
      exact ⟨(by decide), .str Str.empty, H, I.tok _, ⟨_, rfl⟩, q Str.empty (by rw [n0, Nat.mul_zero]; rfl) (fun c h => nomatch h)⟩
    · rw [if_neg h1]
      by_cases h2 : ((n : Int) == 1 || z.length == 0) = true
      · rw [if_pos h2]
        refine ⟨.str z, H, I, ⟨_, rfl⟩, q z ?_ fun c h => h⟩
        rcases Bool.or_eq_true_iff.mp h2 with h | h
        · have : n = 1 := by have := beq_iff_eq.mp h; omega
          rw [this, Nat.mul_one]
        · have h := beq_iff_eq.mp h
          rw [h, Nat.zero_mul]
      · rw [if_neg h2]
        have f := fold_rep z.cps n #[]
        refine ⟨?_, .str _, H, I.tok _, ⟨_, rfl⟩, q _ ?_ fun c h => ?_⟩
        · show Array.size _ ≤ sizeLine
          rw [show (n : Int).toNat = n by omega, f.1]
          refine mem_sz (Nat.le_trans ?_ lim)
          show 0 + z.cps.size * n ≤ z.cps.size * n
          omega
        · show Array.size _ = _
          rw [show (n : Int).toNat = n by omega, f.1]
          show 0 + z.cps.size * n = z.cps.size * n
          omega
        · rw [show (n : Int).toNat = n by omega] at h
          exact (f.2 c h).elim (fun h => nomatch h) fun h => h
theorem at_n {α : Type} {xs : List α} {z : Int} {j : Nat} {v : α} (e : z = (j : Int)) (h : xs[j]? = some v) : atI xs z = some v := by
  subst e
  have hl := (List.getElem?_eq_some_iff.mp h).1
  unfold atI ixN
  rw [if_pos (by omega), if_pos (by omega)]
  show xs[(j : Int).toNat]? = some v
  rw [Int.toNat_natCast, h]
theorem joinL_mem : ∀ (parts : List (List Nat)) (c : Nat), c ∈ joinL [] parts → ∃ p ∈ parts, c ∈ p
  | [], c, h => nomatch h
  | [p], c, h => ⟨p, .head _, h⟩
  | p :: q :: r, c, h => by
    have h' : c ∈ p ++ ([] ++ joinL [] (q :: r)) := h
    rcases List.mem_append.mp h' with h1 | h1
    · exact ⟨p, .head _, h1⟩
    · obtain ⟨x, hx, hc⟩ := joinL_mem (q :: r) c h1
      exact ⟨x, .tail _ hx, hc⟩
theorem joinL_len : ∀ (parts : List (List Nat)), (∀ p ∈ parts, p.length = 1) → (joinL [] parts).length = parts.length
  | [], _ => rfl
  | [p], h => h p (.head _)
  | p :: q :: r, h => by
    show (p ++ ([] ++ joinL [] (q :: r))).length = (q :: r).length + 1
    rw [List.length_append, List.nil_append, joinL_len (q :: r) fun x hx => h x (.tail _ hx), h p (.head _)]
    omega
/-- signs joined -/
theorem join_signs (ys : List Str) (cs : List Nat) (h : ∀ y ∈ ys, ∃ c ∈ cs, y = ⟨#[c]⟩) : (Txt.join "" ys).length = ys.length ∧ ∀ c ∈ (Txt.join "" ys).cps.toList, c ∈ cs := by
  have e : tl (Txt.join "" ys) = joinL [] (ys.map tl) := by
    rw [join_eq, tl_join]
    rfl
  refine ⟨?_, fun c hc => ?_⟩
  · rw [len_tl, e, joinL_len, List.length_map]
    intro p hp
    obtain ⟨y, hy, rfl⟩ := List.mem_map.mp hp
    obtain ⟨c, _, rfl⟩ := h y hy
    rfl
  · have hc' : c ∈ tl (Txt.join "" ys) := hc
    rw [e] at hc'
    obtain ⟨p, hp, hcp⟩ := joinL_mem _ c hc'
    obtain ⟨y, hy, rfl⟩ := List.mem_map.mp hp
    obtain ⟨c', hc2, rfl⟩ := h y hy
    have : c = c' := List.mem_singleton.mp hcp
    rw [this]
    exact hc2
theorem sum_signs (ys : List Str) (cs : List Nat) (h : ∀ y ∈ ys, ∃ c ∈ cs, y = ⟨#[c]⟩) : (ys.map (·.length)).sum = ys.length := by
  induction ys with
  | nil => rfl
  | cons y r ih =>
    rw [List.map_cons, List.sum_cons, ih fun z hz => h z (.tail _ hz), List.length_cons]
    obtain ⟨c, _, rfl⟩ := h y (.head _)
    show 1 + r.length = r.length + 1
    omega
/-- a number drawn between its bounds -/
def spInts (lo hi : Int) : Sp := fun vs H Q _ => ∃ (d : Addr) (H0 : Hp), vs = [.ref d] ∧ Ex H0 H ∧ Dr H0 H d ∧
  ∀ (r : Int) (G0 H' : Hp), lo ≤ r → r ≤ hi → Go (· = d) H0 H G0 H' → Dr G0 H' d → Q (.int r) H'
theorem get_int (xs : List V) (lo hi : Int) (h : ∀ v ∈ xs, ∃ z, v = V.int z ∧ lo ≤ z ∧ z ≤ hi) (r : Int) (r0 : 0 ≤ r) (r1 : r < (xs.length : Int)) : ∃ z, xs[r.toNat]? = some (V.int z) ∧ lo ≤ z ∧ z ≤ hi := by
  have hl : r.toNat < xs.length := by omega
  obtain ⟨z, e, h1⟩ := h _ (List.getElem_mem hl)
  exact ⟨z, by rw [List.getElem?_eq_getElem hl, e], h1⟩
theorem win {z lo hi : Int} (h : lo ≤ z ∧ z ≤ hi) : withinV (.int z) lo hi = true := by
  show (decide (lo ≤ z) && decide (z ≤ hi)) = true
  rw [decide_eq_true h.1, decide_eq_true h.2]
  rfl
end Rt

namespace Rt
open PySem PySem.Spec PyProof.Rows L2 RZ TL
/-! ### tracks: lists of tuples of numbers and texts -/
def tickOf (xs : List V) : Int := match xs with
  | .int t :: _ => t
  | _ => 0
def scD (v : V) : PyData := match v with
  | .int z => .int z
  | .str s => .str s
  | _ => .none
def evD (xs : List V) : PyData := .tuple (xs.map scD)
def trackD (evs : List (List V)) : PyData := .list (evs.map evD)
/-- the events stand at the addresses -/
def Evs (G : Hp) (ps : List Addr) (evs : List (List V)) : Prop := ps.length = evs.length ∧ ∀ (i : Nat) (p : Addr) (xs : List V), ps[i]? = some p → evs[i]? = some xs → G p = some (.tup xs)
/-- a number, or a text that can stand anywhere -/
def Scal2 (v : V) : Prop := (∃ z, v = .int z) ∨ ∃ s : Str, v = .str s ∧ s.length ≤ 1000 ∧ PyData.strOk s = true
theorem Scal2.s {v : V} (h : Scal2 v) : Scal v := h.elim .inl fun ⟨s, e, l, _⟩ => .inr ⟨s, e, l⟩
def Okx (xs : List V) : Prop := (∀ x ∈ xs, Scal2 x) ∧ xs.length ≤ 100
theorem Okx.s {xs : List V} (h : Okx xs) : ∀ x ∈ xs, Scal x := fun x hx => (h.1 x hx).s
theorem Evs.nil (G : Hp) : Evs G [] [] := ⟨rfl, fun i p xs h => by simp at h⟩
theorem Evs.up {G G' : Hp} {ps : List Addr} {evs : List (List V)} (h : Evs G ps evs) (x : Ex G G') : Evs G' ps evs := ⟨h.1, fun i p xs h1 h2 => x _ _ (h.2 i p xs h1 h2)⟩
theorem Evs.snoc {G : Hp} {ps : List Addr} {evs : List (List V)} {p : Addr} {xs : List V} (h : Evs G ps evs) (hp : G p = some (.tup xs)) : Evs G (ps ++ [p]) (evs ++ [xs]) := by
  refine ⟨by rw [List.length_append, List.length_append, h.1]; rfl, fun i q ys h1 h2 => ?_⟩
  by_cases hi : i < ps.length
  · rw [List.getElem?_append_left hi] at h1
    rw [List.getElem?_append_left (by rw [← h.1]; exact hi)] at h2
    exact h.2 i q ys h1 h2
  · rw [List.getElem?_append_right (by omega)] at h1
    rw [List.getElem?_append_right (by rw [← h.1]; omega), ← h.1] at h2
    generalize i - ps.length = j at h1 h2
    match j, h1, h2 with
    | 0, h1, h2 =>
      cases h1
      cases h2
      exact hp
    | k + 1, h1, h2 => simp at h1
theorem Evs.set {G : Hp} {ps : List Addr} {evs : List (List V)} {p : Addr} {xs : List V} (h : Evs G ps evs) (j : Nat) (hp : G p = some (.tup xs)) : Evs G (ps.set j p) (evs.set j xs) := by
  refine ⟨by rw [List.length_set, List.length_set, h.1], fun i q ys h1 h2 => ?_⟩
  rw [List.getElem?_set] at h1 h2
  by_cases e : j = i
  · rw [if_pos e] at h1 h2
    by_cases l : j < ps.length
    · rw [if_pos l] at h1
      rw [if_pos (by rw [← h.1]; exact l)] at h2
      cases h1
      cases h2
      exact hp
    · rw [if_neg l] at h1
      cases h1
  · rw [if_neg e] at h1 h2
    exact h.2 i q ys h1 h2
theorem Evs.at_ {G : Hp} {ps : List Addr} {evs : List (List V)} (h : Evs G ps evs) {i : Nat} (hi : i < evs.length) : ∃ p xs, ps[i]? = some p ∧ evs[i]? = some xs ∧ G p = some (.tup xs) := by
  have hl : i < ps.length := by rw [h.1]; exact hi
  exact ⟨ps[i], evs[i], List.getElem?_eq_getElem hl, List.getElem?_eq_getElem hi, h.2 i _ _ (List.getElem?_eq_getElem hl) (List.getElem?_eq_getElem hi)⟩
section
variable {K : PySem.W.Frag} {G : Hp}
theorem dp_sc {v : V} (h : Scal v) : Dp K G v (scD v) := by
  rcases h with ⟨z, rfl⟩ | ⟨s, rfl, _⟩
  · exact .int z
  · exact .str s
theorem dp_scs : ∀ xs : List V, (∀ x ∈ xs, Scal x) → DpAll K G xs (xs.map scD)
  | [], _ => .nil
  | x :: r, h => .cons (dp_sc (h x (.head _))) (dp_scs r fun y hy => h y (.tail _ hy))
theorem dp_ev {p : Addr} {xs : List V} (hp : G p = some (.tup xs)) (h : ∀ x ∈ xs, Scal x) : Dp K G (.ref p) (evD xs) := .tup (SqT.of hp) (dp_scs xs h)
theorem dp_evs : ∀ (ps : List Addr) (evs : List (List V)), Evs G ps evs → (∀ xs ∈ evs, Okx xs) → DpAll K G (ps.map V.ref) (evs.map evD)
  | [], [], _, _ => .nil
  | p :: ps, xs :: evs, h, ok => .cons (dp_ev (h.2 0 p xs rfl rfl) (ok xs (.head _)).s) (dp_evs ps evs ⟨by have := h.1; simpa using this, fun i q ys h1 h2 => h.2 (i + 1) q ys h1 h2⟩ fun ys hy => ok ys (.tail _ hy))
  | [], xs :: evs, h, _ => by have := h.1; simp at this
  | p :: ps, [], h, _ => by have := h.1; simp at this
theorem dp_track {a : Addr} {ps : List Addr} {evs : List (List V)} (ha : G a = some (.lst (ps.map V.ref))) (h : Evs G ps evs) (ok : ∀ xs ∈ evs, Okx xs) : Dp K G (.ref a) (trackD evs) := .lst (SqL.of ha) (dp_evs ps evs h ok)
end
theorem sc_depth (v : V) : (scD v).depth = 0 := by
  cases v <;> rfl
theorem scs_depth : ∀ xs : List V, PyData.depthAll (xs.map scD) = 0
  | [] => rfl
  | x :: r => by
    show max (scD x).depth (PyData.depthAll (r.map scD)) = 0
    rw [sc_depth, scs_depth r]
    rfl
theorem ev_depth (xs : List V) : (evD xs).depth = 1 := by
  show PyData.depthAll (xs.map scD) + 1 = 1
  rw [scs_depth]
theorem evs_depth : ∀ evs : List (List V), PyData.depthAll (evs.map evD) ≤ 1
  | [] => Nat.zero_le _
  | x :: r => by
    show max (evD x).depth (PyData.depthAll (r.map evD)) ≤ 1
    rw [ev_depth]
    have := evs_depth r
    omega
theorem track_depth (evs : List (List V)) : (trackD evs).depth ≤ 2 := by
  show PyData.depthAll (evs.map evD) + 1 ≤ 2
  have := evs_depth evs
  omega
theorem sc_lay {v : V} (h : Scal2 v) : (scD v).canLay0 = true := by
  rcases h with ⟨z, rfl⟩ | ⟨s, rfl, _, h⟩
  · rfl
  · exact h
theorem scs_lay : ∀ xs : List V, (∀ x ∈ xs, Scal2 x) → PyData.canLayAll0 (xs.map scD) = true
  | [], _ => rfl
  | x :: r, h => by
    show ((scD x).canLay0 && PyData.canLayAll0 (r.map scD)) = true
    rw [sc_lay (h x (.head _)), scs_lay r fun y hy => h y (.tail _ hy)]
    rfl
theorem evs_lay : ∀ evs : List (List V), (∀ xs ∈ evs, Okx xs) → PyData.canLayAll0 (evs.map evD) = true
  | [], _ => rfl
  | x :: r, h => by
    show ((evD x).canLay0 && PyData.canLayAll0 (r.map evD)) = true
    rw [evs_lay r fun y hy => h y (.tail _ hy), Bool.and_true]
    exact scs_lay x (h x (.head _)).1
theorem track_shaped {evs : List (List V)} (h : ∀ xs ∈ evs, Okx xs) : SeqAt.shaped (trackD evs) = true := by
  show ((trackD evs).canLay0 && decide ((trackD evs).depth ≤ 64)) = true
  rw [decide_eq_true (Nat.le_trans (track_depth evs) (by decide)), Bool.and_true]
  exact evs_lay evs h
theorem track_eq {evs : List (List V)} (h : ∀ xs ∈ evs, Okx xs) : PyData.eqv (trackD evs) (trackD evs) = true := SeqAt.eqv_refl _ (SeqAt.canLay_of_shaped (track_shaped h))
theorem nil_shaped : SeqAt.shaped (.list []) = true := by decide
theorem track_nil (evs : List (List V)) : PyData.eqv (trackD evs) (.list []) = decide (evs = []) := by
  cases evs with
  | nil => rfl
  | cons x r => rfl
theorem sc_sm (v : V) : smA (scD v) := by
  cases v <;> exact True.intro
theorem scs_sm : ∀ xs : List V, smAll (xs.map scD)
  | [] => True.intro
  | x :: r => ⟨sc_sm x, scs_sm r⟩
theorem ev_sm {xs : List V} (h : xs.length ≤ 100) : smA (evD xs) := ⟨by rw [List.length_map]; omega, scs_sm xs⟩
theorem evs_sm : ∀ evs : List (List V), (∀ xs ∈ evs, Okx xs) → smAll (evs.map evD)
  | [], _ => True.intro
  | x :: r, h => ⟨ev_sm (h x (.head _)).2, evs_sm r fun y hy => h y (.tail _ hy)⟩
theorem track_sm {evs : List (List V)} (h : ∀ xs ∈ evs, Okx xs) (hl : evs.length ≤ 10000) : smA (trackD evs) := ⟨by rw [List.length_map]; omega, evs_sm evs h⟩
theorem strOk_signs {s : Str} (h : ∀ c ∈ s.cps.toList, c ∈ signsS.cps.toList) : PyData.strOk s = true := by
  have e : ∀ c ∈ signsS.cps.toList, (fun c : Nat => decide (c < 0x110000)) c = true := by decide +kernel
  unfold PyData.strOk
  rw [← Array.all_toList]
  exact List.all_eq_true.mpr fun c hc => e c (h c hc)
theorem withinAll_int : ∀ (vs : List V) (bs : List (Int × Int)), withinAll vs bs = true → ∀ v ∈ vs, ∃ z, v = .int z
  | [], _, _, v, hv => nomatch hv
  | x :: vs, [], h, _, _ => nomatch h
  | x :: vs, b :: bs, h, v, hv => by
    have h' : (withinV x b.1 b.2 && withinAll vs bs) = true := h
    rw [Bool.and_eq_true] at h'
    rcases List.mem_cons.mp hv with rfl | hv
    · cases v with
      | int z => exact ⟨z, rfl⟩
      | _ => exact absurd h'.1 (by simp [withinV])
    · exact withinAll_int vs bs h'.2 v hv
/-- a good thing's texts can stand anywhere -/
theorem thing_scal {xs : List V} (h : thingOk xs = true) : ∀ x ∈ xs, Scal2 x := by
  match xs, h with
  | .str w :: r, h =>
    by_cases hw : w = "mark"
    · subst hw
      rw [thing_mark] at h
      match r, h with
      | [y], h =>
        intro x hx
        simp only [List.mem_cons, List.mem_nil_iff, or_false] at hx
        rcases hx with rfl | rfl
        · exact .inr ⟨_, rfl, by decide, by decide +kernel⟩
        · cases x with
          | str s =>
            have h' : (decide (s.length ≤ 12) && s.cps.toList.all (fun c => decide (c ∈ signsS.cps.toList))) = true := h
            rw [Bool.and_eq_true] at h'
            have h1 := of_decide_eq_true h'.1
            exact .inr ⟨s, rfl, by omega, strOk_signs fun c hc => of_decide_eq_true (List.all_eq_true.mp h'.2 c hc)⟩
          | _ => cases h
    · rw [thing_word hw] at h
      cases hb : wordB w with
      | none => rw [hb] at h; cases h
      | some bs =>
        rw [hb] at h
        have h' : withinAll r bs = true := h
        have hs : PyData.strOk w = true ∧ w.length ≤ 1000 := by
          unfold wordB at hb
          by_cases e1 : w = "on"
          · rw [e1]; exact ⟨by decide +kernel, by decide⟩
          rw [if_neg e1] at hb
          by_cases e2 : w = "off"
          · rw [e2]; exact ⟨by decide +kernel, by decide⟩
          rw [if_neg e2] at hb
          by_cases e3 : w = "knob"
          · rw [e3]; exact ⟨by decide +kernel, by decide⟩
          rw [if_neg e3] at hb
          by_cases e4 : w = "voice"
          · rw [e4]; exact ⟨by decide +kernel, by decide⟩
          rw [if_neg e4] at hb
          cases hb
        intro x hx
        rcases List.mem_cons.mp hx with rfl | hx
        · exact .inr ⟨w, rfl, hs.2, hs.1⟩
        · exact .inl (withinAll_int r bs h' x hx)
/-! ### tables by place, walked -/
/-- enumerate: a new pair at each turn -/
theorem for_enum {K : PySem.W.Frag} {a : Addr} {xs : List V} {g : TG} {tb : TS} {D : Ends} {σ : L2.St} {H : Hp} (Pv : Nat → L2.St → Hp → Prop) (h0 : Pv 0 σ H) (hq : ∀ i σ H, Pv i σ H → SqL K H a xs)
    (hs : ∀ (i : Nat) (x : V) (T : Addr) (σ : L2.St) (H : Hp), xs[i]? = some x → Pv i σ H → H T = none → g (.ref T) σ (upd H T (.tup [.int (i : Nat), x])) fun σ2 H2 => tb { D with nx := Pv (i + 1), ct := Pv (i + 1), bk := D.nx } σ2 H2) (hd : ∀ σ H, Pv xs.length σ H → D.nx σ H) :
    ∃ W : Nat → Nat → L2.St → Hp → Prop, (∃ m, W 0 m σ H) ∧ ∀ i m σ H, W i m σ H →
      ((Ite K a).stop i H ∧ D.nx σ H) ∨ ((Ite K a).go i H ∧ ∃ N : L2.St → Hp → Prop, (∀ σ' H', N σ' H' → ∃ m', m' < m ∧ W (i + 1) m' σ' H') ∧ ∀ v H', (Ite K a).yld i H v H' → g v σ H' fun σ2 H2 => tb { D with nx := N, ct := N, bk := D.nx } σ2 H2) := by
  refine ⟨fun i m σ H => m = xs.length - i ∧ i ≤ xs.length ∧ Pv i σ H, ⟨xs.length, rfl, Nat.zero_le _, h0⟩, ?_⟩
  rintro i m σ H ⟨rfl, hi, p⟩
  have qx := hq i σ H p
  by_cases hlt : i < xs.length
  · have hx : xs[i]? = some xs[i] := List.getElem?_eq_getElem hlt
    refine .inr ⟨⟨xs, _, qx, hx⟩, Pv (i + 1), fun σ' H' p' => ⟨xs.length - (i + 1), by omega, rfl, hlt, p'⟩, fun v H' yl => ?_⟩
    obtain ⟨T, x, rfl, hT, rfl, fx⟩ := yl
    exact hs i x T σ H (fx xs qx) p hT
  · have e : i = xs.length := by omega
    subst e
    exact .inl ⟨⟨xs, qx, Nat.le_refl _⟩, hd σ H p⟩
/-- t + u of two settled tuples -/
theorem cat_x {K : PySem.W.Frag} {d : Addr} {H0 B G0 H : Hp} {a b : Addr} {xs ys : List V} {Q : VK} (S : Sd d H0 B G0 H) (ha : G0 a = some (.tup xs)) (hb : G0 b = some (.tup ys)) (hz : xs.length + ys.length ≤ 1000)
    (q : ∀ (c : Addr) (G1 H1 : Hp), Sd d H0 B G1 H1 → Ex G0 G1 → Ex H H1 → (∀ x, H x ≠ none → G0 x = none → G1 x = none) → G1 c = some (.tup (xs ++ ys)) → Q (.ref c) H1) : rCatA K (.ref a) (.ref b) H Q := by
  refine ⟨a, b, xs, ys, rfl, rfl, SqT.of (S.ex _ _ ha), SqT.of (S.ex _ _ hb), mem_sz (by omega), fun e => ?_, fun _ e => ?_, fun _ _ p hp => ?_⟩
  · exact q b G0 H S (Ex.refl _) (Ex.refl _) (fun _ _ h => h) (by rw [hb, e]; rfl)
  · exact q a G0 H S (Ex.refl _) (Ex.refl _) (fun _ _ h => h) (by rw [ha, e, List.append_nil])
  · refine q p _ _ (S.put _ hp) (Ex.new (S.ex.free hp)) (Ex.new hp) (fun x h1 h2 => ?_) upd_same
    have n : x ≠ p := fun z => h1 (by rw [z]; exact hp)
    rw [upd_ne n]
    exact h2
/-- a track in the making: its list at p, not settled -/
structure TrS (d : Addr) (H0 B : Hp) (p : Addr) (ps : List Addr) (evs : List (List V)) (G H : Hp) : Prop where
  S : Sd d H0 B G H
  hp : H p = some (.lst (ps.map V.ref))
  h0 : G p = none
  hev : Evs G ps evs
  np : d ≠ p
section
variable {d : Addr} {H0 B : Hp} {p : Addr} {ps : List Addr} {evs : List (List V)} {G H : Hp}
theorem TrS.ne {x : Addr} (T : TrS d H0 B p ps evs G H) (h : H x = none) : p ≠ x := ne_of_none T.hp h
theorem TrS.put {x : Addr} (o : HO) (T : TrS d H0 B p ps evs G H) (h : H x = none) : TrS d H0 B p ps evs (upd G x o) (upd H x o) where
  S := T.S.put o h
  hp := (upd_ne (T.ne h)).trans T.hp
  h0 := (upd_ne (T.ne h)).trans T.h0
  hev := T.hev.up (Ex.new (T.S.ex.free h))
  np := T.np
theorem TrS.call {G' H' : Hp} (T : TrS d H0 B p ps evs G H) (g : Go (· = d) G H G' H') (hD : Dr G' H' d) : TrS d H0 B p ps evs G' H' where
  S := T.S.call g hD
  hp := g.keep p _ T.hp fun z => T.np z.symm
  h0 := g.new p (by rw [T.hp]; simp) T.h0
  hev := T.hev.up g.up
  np := T.np
theorem TrS.cat {K : PySem.W.Frag} {a b : Addr} {xs ys : List V} {Q : VK} (T : TrS d H0 B p ps evs G H) (ha : G a = some (.tup xs)) (hb : G b = some (.tup ys)) (hz : xs.length + ys.length ≤ 1000)
    (q : ∀ (c : Addr) (G1 H1 : Hp), TrS d H0 B p ps evs G1 H1 → Ex G G1 → G1 c = some (.tup (xs ++ ys)) → Q (.ref c) H1) : rCatA K (.ref a) (.ref b) H Q :=
  cat_x T.S ha hb hz fun c G1 H1 S1 x1 y1 k1 hc => q c G1 H1 ⟨S1, y1 _ _ T.hp, k1 p (by rw [T.hp]; simp) T.h0, T.hev.up x1, T.np⟩ x1 hc
end
/-- a tuple of numbers and texts, settled -/
def RefOk (G : Hp) (v : V) : Prop := ∃ q xs, v = .ref q ∧ G q = some (.tup xs) ∧ Okx xs
theorem RefOk.up {G G' : Hp} {v : V} (h : RefOk G v) (x : Ex G G') : RefOk G' v := by
  obtain ⟨q, xs, e, h1, h2⟩ := h
  exact ⟨q, xs, e, x _ _ h1, h2⟩
theorem sc2I (z : Int) : Scal2 (.int z) := .inl ⟨z, rfl⟩
theorem okx_app {xs ys : List V} (h1 : ∀ x ∈ xs, Scal2 x) (h2 : ∀ x ∈ ys, Scal2 x) (hl : xs.length + ys.length ≤ 100) : Okx (xs ++ ys) :=
  ⟨fun x hx => (List.mem_append.mp hx).elim (h1 x) (h2 x), by rw [List.length_append]; exact hl⟩
theorem cutV_in (xs : List V) (lo hi : Option Int) : (∀ v ∈ cutV xs lo hi, v ∈ xs) ∧ (cutV xs lo hi).length ≤ xs.length := by
  unfold cutV
  refine ⟨fun v h => List.mem_of_mem_drop (List.mem_of_mem_take h), ?_⟩
  rw [List.length_take, List.length_drop]
  omega
theorem sI_neg (n : Nat) (d : Nat) : HT.sIx n d (some (-1)) = ((-1 : Int) + (n : Int)).toNat := rfl
theorem sI_one (n d : Nat) (h : 0 < n) : HT.sIx n d (some 1) = 1 := by
  show (if (1 : Int) < 0 then ((1 : Int) + (n : Int)).toNat else min (1 : Int).toNat n) = 1
  rw [if_neg (by decide)]
  show min 1 n = 1
  omega
theorem isEv_head {xs : List V} (h : isEv xs = true) : ∃ t ys, xs = .int t :: ys ∧ 0 ≤ t := by
  match xs, h with
  | .int t :: ys, h =>
    have h' : (withinV (.int t) 0 999999 && thingOk ys) = true := h
    rw [Bool.and_eq_true] at h'
    have h2 : (decide (0 ≤ t) && decide (t ≤ 999999)) = true := h'.1
    rw [Bool.and_eq_true] at h2
    exact ⟨t, ys, rfl, of_decide_eq_true h2.1⟩
theorem getD_of {evs : List (List V)} {i : Nat} {xs : List V} (h : evs[i]? = some xs) : evs.getD i [] = xs := by
  rw [List.getD_eq_getElem?_getD, h]
  rfl
/-- a good event, drawn -/
def GoodEv (xs : List V) : Prop := isEv xs = true ∧ Okx xs ∧ xs.length ≤ 5 ∧ ∃ t ys, xs = .int t :: ys ∧ 0 ≤ t ∧ t ≤ 999999 ∧ thingOk ys = true
theorem good_mk {t : Int} {ys : List V} (h0 : 0 ≤ t) (h1 : t ≤ 999999) (h : thingOk ys = true) (hl : ys.length ≤ 4) : GoodEv (.int t :: ys) := by
  refine ⟨?_, ⟨fun x hx => ?_, ?_⟩, ?_, t, ys, rfl, h0, h1, h⟩
  · show (withinV (.int t) 0 999999 && thingOk ys) = true
    rw [win ⟨h0, h1⟩, h]
    rfl
  · rcases List.mem_cons.mp hx with rfl | hx
    · exact .inl ⟨t, rfl⟩
    · exact thing_scal h x hx
  · rw [List.length_cons]
    omega
  · rw [List.length_cons]
    omega
/-- the ticks rise -/
def Rise (evs : List (List V)) : Prop := ∀ (i : Nat) (x y : List V), evs[i]? = some x → evs[i + 1]? = some y → tickOf x ≤ tickOf y
/-- a good track drawn: a new list, not settled -/
def spTrack : Sp := fun vs H Q _ => ∃ (d : Addr) (m : Nat) (H0 : Hp), vs = [.ref d, .int (m : Int)] ∧ m ≤ 1000 ∧ Ex H0 H ∧ Dr H0 H d ∧
  ∀ (p : Addr) (ps : List Addr) (evs : List (List V)) (G0 H' : Hp), Go (· = d) H0 H G0 H' → Dr G0 H' d → H p = none → H' p = some (.lst (ps.map V.ref)) → G0 p = none → Evs G0 ps evs → evs.length ≤ m → (∀ xs ∈ evs, GoodEv xs) → Rise evs → Q (.ref p) H'
end Rt

namespace Rt
open PySem PySem.Spec PyProof.Rows L2
/-! ### a comprehension whose items' making may let an error out -/
/-- what a call in the block may let out -/
def BX (Y : Cx) (E : XK) : Value → Shared → Prop := fun u z => ∃ (H : Hp) (s : Shared), Un Y.fs Y.ex Y.H_0 H Y.s_0.heap s.heap ∧ s.os = Y.s_0.os ∧ (∃ m, s.heap.Ns Y.env.locals m) ∧ H Y.env.locals = none ∧ L2.CX Y.prog Y.w Y.stack H s E u z
section
variable {Y : Cx} {pn : List (Addr × Obj)} {E : XK} {x : Str} {p pos : Pos} {e : Expr} {es : List Expr} {t : TA} {k : Nat} {sp : Sp}
theorem pe_dxb (D : DefX Y.prog Y.w Y.K Y.mg Y.base x k sp) (hr : Room k Y.A) (hg : Gl (Y.tr pn (BX Y E)) x) (ha : PA (Y.tr pn (BX Y E)) (e :: es) t) (hdb : (x == ("__debug__" : Str)) = false := by decide)
    (he : starEach (e :: es) Y.env = (false, eval e Y.env) :: starEach es Y.env := by rfl) (hpl : (backTo pos (starEach es Y.env)).any (·.1) = false := by rfl) :
    PE (Y.tr pn (BX Y E)) (.Call (.Name x p) (e :: es) [] pos) (tCallS sp (fun _ => E) t) := by
  obtain ⟨f, fd, ps, h1, h2, h3, h4⟩ := D.ex
  exact pe_callS (X := Y.tr pn (BX Y E)) h2 hr hg h1 h3 h4 (fun σ pins H s e s' I c => ⟨H, s, I.base, I.os, (let ⟨m, a, _⟩ := I.loc; ⟨m, a⟩), I.free, c⟩) ha hdb he hpl
end
theorem frames_but {h h' B B2 : Heap} {C : Addr} (sb : Heap.SameBut C h h') : ∀ {l : List Env}, h.FunFrames B l → C ∉ frs l → (∀ L ∈ frs l, B2.get? L = none) → h'.FunFrames B2 l
  | [], _, _, _ => trivial
  | env :: l, x, nC, hn => by
    obtain ⟨a1, ⟨L, o, a2, _, a4, a5⟩, a6⟩ := x
    have hL : L ∈ frs (env :: l) := List.mem_filterMap.mpr ⟨env, .head _, a2⟩
    have sub : ∀ b ∈ frs l, b ∈ frs (env :: l) := fun b hb => by
      obtain ⟨e, he, q⟩ := List.mem_filterMap.mp hb
      exact List.mem_filterMap.mpr ⟨e, .tail _ he, q⟩
    exact ⟨a1, ⟨L, o, a2, hn L hL, (sb.2 L fun z => nC (z ▸ hL)).trans a4, a5⟩, frames_but sb a6 (fun z => nC (sub _ z)) fun b hb => hn b (sub b hb)⟩
/-- off the block, on in the def's own frame -/
theorem bx_out {X : Cx} {pins : List (Addr × Obj)} {σ : L2.St} {H3 : Hp} {s3 : Shared} {fp : List Addr} {scope : Scope} {ce : Env} {E : XK} (I3 : Inv X pins σ H3 s3) (hC : ce.locals = s3.heap.objs.size) (hcf : ce.frame = X.env.frame)
    (hs : X.stack = X.env :: X.outer) (hf : X.env.frame = some X.env.locals) (tk : Takes X (fun cls d _ H => E cls d H)) (f3 : ∀ b ∈ fp, FpOk X pins H3 b ∧ b < s3.heap.objs.size) {u : Value} {z : Shared}
    (h : BX (X.blk s3 H3 scope ce fp) E u z) : notedBy (model X.prog X.w) X.A ce (CompFails (model X.prog X.w) X.A X.xe ce) u z := by
  obtain ⟨H, s, un, os1, ⟨m, hm⟩, nC, a, B, H', cls, d, rfl, fl, hok, ub, na, os2, ag, hE⟩ := h
  have un : Un (frs X.stack) fp H3 H s3.heap s.heap := un
  have os1 : s.os = s3.os := os1
  have fl : HandSPX.FlyingZ B X.stack a (Zc cls d) z.heap := fl
  have ub : UB (frs X.stack) H H' s.heap B z.heap := ub
  have hok : HOk X.prog X.w H' B := hok
  have hm : s.heap.Ns ce.locals m := hm
  have nC : H ce.locals = none := nC
  have frm : X.A.frames = some (X.env :: X.outer) := by rw [I3.ok.frames, hs]
  have nst : ce.locals ∉ frs X.stack := fun q => by
    obtain ⟨_, o, e, _⟩ := I3.stack.mem q
    have := Heap.lt_size e
    rw [hC] at this
    exact Nat.lt_irrefl _ this
  show wpAny _ X.A (noteFrame (.ref a) ce) _ _ z
  rw [show noteFrame (.ref a) ce = noteFrame (.ref a) X.env by unfold noteFrame PySem.frameOf; rw [hcf]]
  have fl' : HandSPX.FlyingZ B (X.env :: X.outer) a (Zc cls d) z.heap := by rw [← hs]; exact fl
  refine HandSPX.looks_onZ Zc.steady frm hf fl' fun h1 hh1 up1 => ?_
  rw [← hs] at hh1
  obtain ⟨st1, nB, ff1, oe, vs, T, oT, ts, he, hz, hd, hv1, hnT, hTe, hT, hdT, h3⟩ := hh1
  obtain ⟨oC, es, ep, hoC, hdC, hkC, hfC⟩ := hm
  have bC : B.get? ce.locals = some oC := ub.keep _ _ hoC nC nst
  have c1 : h1.get? ce.locals = some oC := st1 _ _ bC
  have aC : a ≠ ce.locals := fun q => by
    rw [q, c1] at he
    cases he
    rw [hdC] at hd
    cases hd
  have TC : T ≠ ce.locals := fun q => by
    rw [q, c1] at hT
    cases hT
    rw [hdC] at hdT
    cases hdT
  refine ⟨m, ⟨oC, es, ep, c1, hdC, hkC, hfC⟩, fun h2 m2 _ sb => ?_⟩
  -- the ground without the block's names
  have gB : ∀ b o, B.get? b = some o → b ≠ ce.locals → (PySem.W.hideAll B [ce.locals]).get? b = some o := fun b o e n => PySem.W.hideAll_get _ e fun q => n (List.mem_singleton.mp q)
  have oB : ∀ b o, (PySem.W.hideAll B [ce.locals]).get? b = some o → B.get? b = some o ∧ b ≠ ce.locals := fun b o e => ⟨PySem.W.of_hideAll _ e, fun q => by
    rw [PySem.W.hideAll_none _ (List.mem_singleton.mpr q)] at e
    cases e⟩
  have oN : ∀ b, B.get? b = none → (PySem.W.hideAll B [ce.locals]).get? b = none := fun b e => by
    cases q : (PySem.W.hideAll B [ce.locals]).get? b with
    | none => rfl
    | some o =>
      rw [(oB b o q).1] at e
      cases e
  generalize PySem.W.hideAll B [ce.locals] = B2 at gB oB oN
  have nfB : ∀ L ∈ frs X.stack, B.get? L = none := fun L hL => (ff1.mem hL).1
  have hh2 : HandSPX.HeldZ B2 X.stack a (Zc cls d) X.env.locals h2 :=
    ⟨fun b o q => (sb.2 b (oB b o q).2).trans (st1 b o (oB b o q).1), oN _ nB, frames_but sb ff1 nst (fun L hL => oN L (nfB L hL)),
      oe, vs, T, oT, ts, (sb.2 a aC).trans he, hz, hd, hv1, oN T hnT, hTe, (sb.2 T TC).trans hT, hdT, h3⟩
  unfold PySem.passOn
  refine wpAny_bind (wpAny_field (x := .ref T) ((sb.2 a aC).trans he) hd hv1 ?_)
  rw [if_neg (show ¬ ((Value.ref T == Value.none) = true) by simp)]
  -- the state without the error
  obtain ⟨G, g1, g2⟩ := restrict z.heap fun b => (B2.get? b).isSome || decide (b ∈ frs X.stack)
  have gG : ∀ b o, B2.get? b = some o → G.get? b = some o := fun b o e => by
    rw [g1 b (by rw [e]; rfl)]
    exact fl.1 b o (oB b o e).1
  have gF : ∀ b, b ∈ frs X.stack → G.get? b = z.heap.get? b := fun b hb => g1 b (by rw [decide_eq_true hb, Bool.or_true])
  have oG : ∀ b o, G.get? b = some o → z.heap.get? b = some o ∧ (B2.get? b = some o ∨ b ∈ frs X.stack) := fun b o e => by
    cases q : ((B2.get? b).isSome || decide (b ∈ frs X.stack)) with
    | false => rw [g2 b q] at e; cases e
    | true =>
      rw [g1 b q] at e
      rcases Bool.or_eq_true_iff.mp q with q | q
      · obtain ⟨o', q⟩ := Option.isSome_iff_exists.mp q
        have := fl.1 b o' (oB b o' q).1
        rw [e] at this
        cases this
        exact ⟨e, .inl q⟩
      · exact ⟨e, .inr (of_decide_eq_true q)⟩
  have ltC : ∀ b o, s3.heap.get? b = some o → b ≠ ce.locals := fun b o e q => by
    have := Heap.lt_size e
    rw [q, hC] at this
    exact Nat.lt_irrefl _ this
  have H'C : H' ce.locals = none := ub.free _ _ hoC nC
  have uG : Un (frs X.stack) fp H3 H' s3.heap G := by
    refine ⟨fun b o e n hb hx => gG b o (gB b o (ub.keep b o (un.keep b o e n hb hx) (un.free b o e n hx) hb) (ltC b o e)), fun b o e n hb hx => ?_, fun b o e n hx => ?_, fun b o e hx => ?_, fun b xs e => ub.tups b xs (un.tups b xs e), fun b o xs e => ub.frzs b o xs (un.frzs b o xs e), fun b ps e => ?_⟩
    · obtain ⟨s1, q1⟩ := un.slot b o e n hb hx
      obtain ⟨s2, q2⟩ := ub.slot b _ q1 hb
      exact ⟨s2, by rw [gF b hb]; exact q2⟩
    · obtain ⟨sl, q⟩ := un.any e n hx
      exact ub.free b _ q (un.free b o e n hx)
    · obtain ⟨o1, q1⟩ := un.there b o e hx
      by_cases hb : b ∈ frs X.stack
      · obtain ⟨s2, q2⟩ := ub.slot b _ q1 hb
        exact ⟨_, by rw [gF b hb]; exact q2⟩
      · obtain ⟨o2, q2⟩ := ub.there b _ q1 hb
        exact ⟨o2, gG b o2 (gB b o2 q2 (ltC b o e))⟩
    · obtain ⟨m1, q1⟩ := un.tbls b ps e
      obtain ⟨m2, q2⟩ := ub.tbls b _ q1
      exact ⟨m1 ++ m2, by rw [q2, Array.append_assoc]⟩
  have hG : HOk X.prog X.w H' G := fun b o q => (hok b o q).stay (fun c w hc r => gG c w (gB c w r fun e => by
    rcases hc with hc | hc
    · rw [← hc, e] at q
      rw [H'C] at q
      cases q
    · rw [e, H'C] at hc
      cases hc)) (fun _ r => r) fun _ _ r => r
  have J : Inv X pins σ H' { s3 with heap := G, gens := z.gens, drawn := z.drawn, toks := z.toks } := I3.call (ch := fp) uG hG ag fun b hb => ⟨(f3 b hb).1.2.2.2.1, (f3 b hb).1.2.1, (f3 b hb).1.2.2.2.2.1, (f3 b hb).1.2.2.2.2.2⟩
  refine wpAny_bind ?_
  rw [hcf, hf]
  refine HandSPX.setFlight_onZ hh2 fun h4 hh4 up4 => ?_
  refine wpAny_throw (tk _ _ ⟨a, B2, _, pins, σ, H', cls, d, rfl, J, fun b o e hb => ?_, fun b o e hnf => ?_, .inr (.inr hh4), na, ?_, ag, hE⟩)
  · exact (oG b o e).2.elim (fun q => q) fun q => absurd q hb
  · obtain ⟨e1, e2⟩ := oG b o e
    have nb : b ≠ ce.locals := e2.elim (fun q => (oB b o q).2) fun q r => nst (r ▸ q)
    obtain ⟨l1, q1⟩ := up1 b o e1 hnf
    obtain ⟨l2, q2⟩ := up4 b { o with slots := l1 } ((sb.2 b nb).trans q1) hnf
    exact ⟨l2, q2⟩
  · show z.os = s3.os
    rw [os2, os1]
section
variable {X : Cx}
theorem lcx_core {pins : List (Addr × Obj)} {s : Shared} {σ : L2.St} {H : Hp} {Q : VK} {elt tg iter : Expr} {ifs : List Expr} {scope : Scope} {own : List (Str × Nat)} {pos pos' : Pos} {wIt : TI} {g : TG} {tt : TT} {te : TE} {E : XK} {use : Option (Value → Sem Unit)} {Qf : Value → Shared → Prop}
    (hc : X.calm = true) (hN : X.N.Nodup) (I : Inv X pins σ H s) (hi : PI X tg iter wIt) (ok : BlkOk X.N X.env.scope scope own) (hst : X.stack = X.env :: X.outer) (hf : X.env.frame = some X.env.locals) (tk : Takes X (fun cls d _ H => E cls d H))
    (hg : ∀ s H C cl fp, PG (X.blk s H scope (compEnvC scope cl C X.env) fp) tg g) (ht : ∀ s H C cl fp, PTs (X.blk s H scope (compEnvC scope cl C X.env) fp) ifs tt)
    (he : ∀ s H C cl fp pn, PE ((X.blk s H scope (compEnvC scope cl C X.env) fp).tr pn (BX (X.blk s H scope (compEnvC scope cl C X.env) fp) E)) elt te) (hs : ∀ x, foldedSetIterable iter X.env x = pure x)
    (h : tLc wIt g tt te (own.map (·.2)) σ H Q)
    (hRR : ∀ D s' m H' (cenv : Env), Inv X pins σ H' s' → Q (.ref D) H' → s'.heap.Ns cenv.locals m → FpOk X pins H' cenv.locals → compEnds (model X.prog X.w) X.A X.xe use Qf (.ref D) cenv (.ok .next) s') :
    wpAny (model X.prog X.w) X.A
      (comprehension (.ListComp elt [⟨tg, iter, ifs, 0⟩] scope pos) scope X.env pos' (newList []) false (eval iter X.env) use) Qf X.xe s := by
  have free : ∀ y ∈ scope.names, y.2 = .free → ∃ c, X.env.cells.lookup y.1 = some c := fun y hy e => (ok.free y hy e).elim (fun k => I.ok.has _ (.inl k)) fun k => I.ok.has _ (.inr k)
  refine comprehension_at (use := use) rfl hs (closure_ok free) ok.kind (fun y hy e => by rw [ok.uniq y hy, e]) (thn (hi.run pins s σ H _ I h) fun xv s1 hx => thn hx fun itv sA h2 => ?_)
  obtain ⟨it, fp, tn, J, H2, rfl, I2, T, t2, o2, q⟩ := h2
  refine wpAny_newObj_type (newEnv_comp ?_) (Nat.zero_le _)
  generalize eD : sA.heap.objs.size = D
  have nD : H2 D = none := I2.hok.fresh (Nat.le_of_eq eD)
  obtain ⟨W, ⟨m0, w0⟩, turn⟩ := q D nD
  generalize e3 : ({ sA with heap := sA.heap.push { cls := .type "list", data := .seq ([] : List Value).toArray } } : Shared) = sB
  have q3 : sB.heap = sA.heap.push { cls := .type "list", data := .seq ([] : List Value).toArray } := by rw [← e3]
  have IB : Inv X pins σ (upd H2 D (.lst [])) sB := by
    subst e3
    exact I2.laid (t' := sA.toks) (fun b o e => Heap.get?_push_of_some _ e) (Nat.le_of_eq eD) ⟨Nat.zero_le _, [], 0, .nil, by rw [← eD]; exact Heap.get?_push_size _ rfl⟩
  have small : ∀ b ∈ fp, b < sA.heap.objs.size := fun b hb => let ⟨o, e, _⟩ := T.obj _ _ t2 b hb; Heap.lt_size e
  have oF : ∀ b ∈ fp, FpOk X pins (upd H2 D (.lst [])) b ∧ b < sB.heap.objs.size := fun b hb =>
    ⟨⟨by rw [upd_ne (fun z => Nat.lt_irrefl D (by have := small b hb; rw [eD, z] at this; exact this))]; exact (o2 b hb).1, (o2 b hb).2⟩, by rw [q3, Heap.size_push]; exact Nat.lt_succ_of_lt (small b hb)⟩
  have t3 : tn 0 sB.heap := T.keep _ _ _ t2 fun b _ o e => by rw [q3]; exact Heap.get?_push_of_some _ e
  show codeAny _ _ (.compStart (.ListComp elt [⟨tg, iter, ifs, 0⟩] scope pos) 0 (.ref it) (.ref D) (compEnvC scope (cellsFrom (sB.heap.objs.size + 1) scope.names (cloFrom X.env.cells scope.names [])) sB.heap.objs.size X.env)) (compEnds (model X.prog X.w) X.A X.xe use Qf (.ref D) (compEnvC scope (cellsFrom (sB.heap.objs.size + 1) scope.names (cloFrom X.env.cells scope.names [])) sB.heap.objs.size X.env)) { sB with heap := pushCells (sB.heap.push { cls := .type "dict", data := .dict #[] }) scope.names }
  have IA := block_start IB ok hN oF
  generalize cellsFrom (sB.heap.objs.size + 1) scope.names (cloFrom X.env.cells scope.names []) = cl at IA ⊢
  have pg := hg sB (upd H2 D (.lst [])) sB.heap.objs.size cl fp
  have pt := ht sB (upd H2 D (.lst [])) sB.heap.objs.size cl fp
  have pe := he sB (upd H2 D (.lst [])) sB.heap.objs.size cl fp
  have cF : (compEnvC scope cl sB.heap.objs.size X.env).frame = X.env.frame := rfl
  have cL : (compEnvC scope cl sB.heap.objs.size X.env).locals = sB.heap.objs.size := rfl
  have noF : ∀ b ∈ fp, (upd H2 D (.lst [])) b = none := fun b hb => (oF b hb).1.1
  generalize compEnvC scope cl sB.heap.objs.size X.env = ce at IA pg pt pe cF cL ⊢
  generalize upd H2 D (.lst []) = HB at IB IA pg pt pe w0 noF oF
  generalize e4 : ({ sB with heap := pushCells (sB.heap.push { cls := .type "dict", data := .dict #[] }) scope.names } : Shared) = s4 at IA ⊢
  have t4 : tn 0 s4.heap := T.keep _ _ _ t3 fun b _ o e => by rw [← e4]; exact pushCells_keeps _ _ _ _ (Heap.get?_push_of_some _ e)
  have okb := IA.ok
  have stat : ∀ {σ' : L2.St} {H' : Hp} {s' : Shared}, Inv (X.blk sB HB scope ce fp) [] σ' H' s' → (∀ b ∈ fp, H' b = none) → ∀ b ∈ fp, FpOk (X.blk sB HB scope ce fp) [] H' b := fun {σ' H' s'} I' hn b hb =>
    ⟨hn b hb, (okb.exf b hb).1, okb.exfs b hb, .inl hb, fun x c e => (okb.exf b hb).2 x c e, fun p hp => nomatch hp⟩
  have loop : codeAny (model X.prog X.w) X.A (.compLoop (.ListComp elt [⟨tg, iter, ifs, 0⟩] scope pos) 0 (.ref it) (.ref D) ce) (compEnds (model X.prog X.w) X.A X.xe use Qf (.ref D) ce) s4 := by
    refine compLoop_any (fun n s' => ∃ i H', Inv (X.blk sB HB scope ce fp) [] (wipe σ (own.map (·.2))) H' s' ∧ tn i s'.heap ∧ (∀ b ∈ fp, H' b = none) ∧ W i n H') (fun n s5 hI => ?_) m0 ⟨0, HB, IA, t4, noF, w0⟩
    obtain ⟨i, H5, I5, t5, n5, wN⟩ := hI
    rcases turn i n H5 wN with ⟨stop, qEnd⟩ | ⟨go, Nx, hNext, step⟩
    · refine thnF (T.done (X.blk sB HB scope ce fp) rfl rfl rfl hc i [] s5 _ H5 (fun _ _ => False) I5 (stat I5 n5) t5 stop) fun r s6 hr6 => ?_
      obtain ⟨rfl, I6⟩ := hr6
      have IG : Inv X pins σ H5 s6 := IB.call' (ch := fp) I6.os I6.base I6.hok I6.bare fun b hb => ⟨(oF b hb).1.2.2.2.1, (oF b hb).1.2.1, (oF b hb).1.2.2.2.2.1, (oF b hb).1.2.2.2.2.2⟩
      obtain ⟨m, hn, _⟩ := I6.loc
      have fr : H5 ce.locals = none := I6.free
      exact hRR D s6 m H5 ce IG qEnd hn (IB.fpOk (Nat.le_of_eq cL.symm) fr)
    · refine thnF (T.item (X.blk sB HB scope ce fp) rfl rfl rfl hc i [] s5 _ H5 (fun _ _ => False) I5 (stat I5 n5) t5 go) fun r s6 hr6 => ?_
      obtain ⟨u, rfl, h6⟩ := hr6
      refine thnF h6 fun _ sG h7 => ?_
      obtain ⟨x, H7, IG, r7, y7, t7, n7⟩ := h7
      have IGp := IG.pinned (stat IG n7) (T.obj _ _ t7)
      refine thnF (pg.run _ sG _ H7 x u _ IGp r7 (step x H7 y7)) fun _ sH h8 => ?_
      obtain ⟨σ8, H8, I8, hw8, q8⟩ := h8
      refine thnF (pt.run _ sH σ8 H8 _ I8 q8) fun b s9 h9 => ?_
      obtain ⟨H9, I9, q9⟩ := h9
      have fin : ∀ {s' : Shared} {H' : Hp}, Inv (X.blk sB HB scope ce fp) ([] ++ pinsAt fp sG.heap) σ8 H' s' → Nx H' → ∃ m, m < n ∧ ∃ i H', Inv (X.blk sB HB scope ce fp) [] (wipe σ (own.map (·.2))) H' s' ∧ tn i s'.heap ∧ (∀ b ∈ fp, H' b = none) ∧ W i m H' := fun {s' H'} I' nx => by
        obtain ⟨m', hm, w'⟩ := hNext H' nx
        have pin' : ∀ b ∈ fp, ∀ o, sG.heap.get? b = some o → s'.heap.get? b = some o ∧ H' b = none := fun b hb o e => ⟨(I'.pin (b, o) (List.mem_append_right _ (List.mem_append_right _ (mem_pinsAt hb e)))).1, (I'.pin (b, o) (List.mem_append_right _ (List.mem_append_right _ (mem_pinsAt hb e)))).2.1⟩
        refine ⟨m', hm, i + 1, H', I'.unpinned.weak (by rw [← hw8, wipe_length]) (fun j v e => ?_), T.keep _ _ _ t7 fun b hb o e => (pin' b hb o e).1, fun b hb => ?_, w'⟩
        · rw [← hw8] at e
          exact (wipe_some e).1
        · obtain ⟨o, e, _⟩ := T.obj _ _ t7 b hb
          exact (pin' b hb o e).2
      cases b with
      | false => exact fin I9 q9
      | true =>
        refine wpAny_mono ((pe _).run [] s9 σ8 H9 _ (I9.toTry _) q9) (fun z s10 hz => ?_) fun u z hz => bx_out IB cL cF hst hf tk oF hz
        obtain ⟨yv, H10, I10, r10, acc, eD10, hz10, nx⟩ := hz
        exact app_ok (X := X.blk sB HB scope ce fp) (I10.ofTry okb) eD10 hz10 r10 fun s11 I11 => fin I11 nx
  exact codeAny_compStart_list loop (T.self X.A 0 _ _ _ t4 loop)
theorem pe_lcx {elt tg iter : Expr} {ifs : List Expr} {scope : Scope} {own : List (Str × Nat)} {pos : Pos} {wIt : TI} {g : TG} {tt : TT} {te : TE} {E : XK} (hc : X.calm = true) (hN : X.N.Nodup) (hi : PI X tg iter wIt) (ok : BlkOk X.N X.env.scope scope own)
    (hst : X.stack = X.env :: X.outer) (hf : X.env.frame = some X.env.locals) (tk : Takes X (fun cls d _ H => E cls d H))
    (hg : ∀ s H C cl fp, PG (X.blk s H scope (compEnvC scope cl C X.env) fp) tg g) (ht : ∀ s H C cl fp, PTs (X.blk s H scope (compEnvC scope cl C X.env) fp) ifs tt)
    (he : ∀ s H C cl fp pn, PE ((X.blk s H scope (compEnvC scope cl C X.env) fp).tr pn (BX (X.blk s H scope (compEnvC scope cl C X.env) fp) E)) elt te) (hs : ∀ x, foldedSetIterable iter X.env x = pure x := by intro _; rfl) :
    PE X (.ListComp elt [⟨tg, iter, ifs, 0⟩] scope pos) (tLc wIt g tt te (own.map (·.2))) := by
  refine ⟨fun pins s σ H Q I h => ?_⟩
  rw [eval_ListComp]
  refine lcx_core hc hN I hi ok hst hf tk hg ht he hs h fun D s' m H' cenv I' q hn f => ⟨m, hn, fun h'' sb => ?_⟩
  obtain ⟨o0, o1, o2, oF, o4, o5⟩ := f
  exact ⟨.ref D, H', I'.turned (t' := s'.toks) (fun b o hb e => (sb.2 b hb).trans e) o0 o1 oF o4 o5, rfl, q⟩
end
end Rt

namespace Rt
open PySem PySem.Spec PyProof.Rows L2 RZ TL
/-! ### {t} of a tuple of numbers and texts: some text -/
def Scal3 (v : V) : Prop := (∃ z : Int, v = .int z ∧ z.natAbs < 10 ^ 40) ∨ ∃ s : Str, v = .str s ∧ s.length ≤ 100 ∧ PyData.strOk s = true
theorem Scal3.s2 {v : V} (h : Scal3 v) : Scal2 v := h.elim (fun ⟨z, e, _⟩ => .inl ⟨z, e⟩) fun ⟨s, e, l, k⟩ => .inr ⟨s, e, by omega, k⟩
def scT (v : V) : Str := match v with
  | .int z => (toString z : String)
  | .str y => reprText y
  | _ => Str.empty
theorem strOk_lt {s : Str} (h : PyData.strOk s = true) : ∀ c ∈ s.cps.toList, c < 16 ^ 8 := fun c hc => by
  unfold PyData.strOk at h
  rw [← Array.all_toList] at h
  have := of_decide_eq_true (List.all_eq_true.mp h c hc)
  exact Nat.lt_trans this (by decide)
theorem scT_len {v : V} (h : Scal3 v) : (scT v).length ≤ 1921 := by
  rcases h with ⟨z, rfl, hz⟩ | ⟨s, rfl, hl, hk⟩
  · exact PyProof.Rows.int_text_len_1921 (log_small hz)
  · have := StrLaws.reprText_len s (strOk_lt hk)
    show (reprText s).length ≤ 1921
    omega
theorem scT_all {prog : Program} {w : World} : ∀ {xs : List V} {its : List Value}, Vals xs its → (∀ v ∈ xs, Scal3 v) → ReprAll prog w its (xs.map scT)
  | [], _, r, _ => by
    cases r
    exact .nil
  | v :: xs, _, r, h => by
    cases r with
    | cons r1 r2 =>
      have tl := scT_all (prog := prog) (w := w) r2 fun z hz => h z (.tail _ hz)
      have hlen := scT_len (h v (.head _))
      rcases h v (.head _) with ⟨z, rfl, hz⟩ | ⟨s, rfl, hl, hk⟩
      · obtain ⟨t, rfl⟩ := r1
        exact .cons (ReprIs.int t (log_small hz)) tl
      · obtain ⟨t, rfl⟩ := r1
        exact .cons (ReprIs.str s t (mem_sz (by have : (reprText s).length ≤ 1921 := hlen; omega))) tl
theorem scT_piled : ∀ xs : List V, (∀ v ∈ xs, Scal3 v) → piled (xs.map scT) ≤ 1923 * xs.length
  | [], _ => Nat.zero_le _
  | v :: xs, h => by
    have h1 := scT_len (h v (.head _))
    have h2 := scT_piled xs fun z hz => h z (.tail _ hz)
    rw [List.map_cons, piled_cons, List.length_cons]
    omega
def tFmtM (K : PySem.W.Frag) (te : TE) : TE := fun σ H Q => te σ H fun x H1 => ∃ (a : Addr) (xs : List V), x = .ref a ∧ SqT K H1 a xs ∧ (∀ v ∈ xs, Scal3 v) ∧ xs.length ≤ 50 ∧ ∀ m : Str, m.length ≤ 100000 → Q (.str m) H1
theorem pe_fmtM {X : Cx} {e : Expr} {te : TE} {pos : Pos} {k : Nat} (hr : Room k X.A) (he : PE X e te) : PE X (.FormattedValue e (-1) none pos) (tFmtM X.K te) := by
  refine ⟨fun pins s σ H Q I h => ?_⟩
  refine wpAny_FormattedValue_plain (thn (he.run pins s σ H _ I h) fun v s1 hv => ?_)
  obtain ⟨x, H1, I1, r1, a, xs, rfl, ht, hc, hl, q⟩ := hv
  cases r1
  obtain ⟨its, rv, ⟨o, ho, hcl, n, hd⟩, _⟩ := I1.tuple ht
  have hp := scT_piled xs hc
  have htx := fmt_text (xs.map scT)
  have hu := hr.units
  have hb : (tupleText (xs.map scT)).length ≤ 99000 := by omega
  exact fmt_tuple (ts := xs.map scT) (by omega) ho hcl hd (scT_all rv hc) (mem_sz (by omega)) fun m u tk hm => ⟨.str m, H1, I1.tok _, ⟨u, rfl⟩, q m (by omega)⟩
theorem withinAll_small : ∀ (vs : List V) (bs : List (Int × Int)), (∀ b ∈ bs, 0 ≤ b.1 ∧ b.2 ≤ 127) → withinAll vs bs = true → ∀ v ∈ vs, ∃ z, v = .int z ∧ 0 ≤ z ∧ z ≤ 127
  | [], _, _, _, v, hv => nomatch hv
  | x :: vs, [], _, h, _, _ => nomatch h
  | x :: vs, b :: bs, hb, h, v, hv => by
    have h' : (withinV x b.1 b.2 && withinAll vs bs) = true := h
    rw [Bool.and_eq_true] at h'
    rcases List.mem_cons.mp hv with rfl | hv
    · cases v with
      | int z =>
        have h2 : (decide (b.1 ≤ z) && decide (z ≤ b.2)) = true := h'.1
        rw [Bool.and_eq_true] at h2
        have h3 := of_decide_eq_true h2.1
        have h4 := of_decide_eq_true h2.2
        have h5 := hb b (.head _)
        exact ⟨z, rfl, by omega, by omega⟩
      | _ => exact absurd h'.1 (by simp [withinV])
    · exact withinAll_small vs bs (fun c hc => hb c (.tail _ hc)) h'.2 v hv
theorem wordB_small {w : Str} {bs : List (Int × Int)} (hb : wordB w = some bs) : (∀ b ∈ bs, 0 ≤ b.1 ∧ b.2 ≤ 127) ∧ PyData.strOk w = true ∧ w.length ≤ 100 := by
  unfold wordB at hb
  by_cases e1 : w = "on"
  · rw [if_pos e1] at hb
    cases hb
    rw [e1]
    exact ⟨by decide, by decide +kernel, by decide⟩
  rw [if_neg e1] at hb
  by_cases e2 : w = "off"
  · rw [if_pos e2] at hb
    cases hb
    rw [e2]
    exact ⟨by decide, by decide +kernel, by decide⟩
  rw [if_neg e2] at hb
  by_cases e3 : w = "knob"
  · rw [if_pos e3] at hb
    cases hb
    rw [e3]
    exact ⟨by decide, by decide +kernel, by decide⟩
  rw [if_neg e3] at hb
  by_cases e4 : w = "voice"
  · rw [if_pos e4] at hb
    cases hb
    rw [e4]
    exact ⟨by decide, by decide +kernel, by decide⟩
  rw [if_neg e4] at hb
  cases hb
theorem sc3I {z : Int} (h0 : -10000000 ≤ z) (h1 : z ≤ 10000000) : Scal3 (.int z) := by
  have : (10000000 : Nat) < 10 ^ 40 := by decide
  exact .inl ⟨z, rfl, by omega⟩
theorem thing_scal3 {xs : List V} (h : thingOk xs = true) : ∀ x ∈ xs, Scal3 x := by
  match xs, h with
  | .str w :: r, h =>
    by_cases hw : w = "mark"
    · subst hw
      rw [thing_mark] at h
      match r, h with
      | [y], h =>
        intro x hx
        simp only [List.mem_cons, List.mem_nil_iff, or_false] at hx
        rcases hx with rfl | rfl
        · exact .inr ⟨_, rfl, by decide, by decide +kernel⟩
        · cases x with
          | str s =>
            have h' : (decide (s.length ≤ 12) && s.cps.toList.all (fun c => decide (c ∈ signsS.cps.toList))) = true := h
            rw [Bool.and_eq_true] at h'
            have h1 := of_decide_eq_true h'.1
            exact .inr ⟨s, rfl, by omega, strOk_signs fun c hc => of_decide_eq_true (List.all_eq_true.mp h'.2 c hc)⟩
          | _ => cases h
    · rw [thing_word hw] at h
      cases hb : wordB w with
      | none => rw [hb] at h; cases h
      | some bs =>
        rw [hb] at h
        have h' : withinAll r bs = true := h
        obtain ⟨b1, b2, b3⟩ := wordB_small hb
        intro x hx
        rcases List.mem_cons.mp hx with rfl | hx
        · exact .inr ⟨w, rfl, b3, b2⟩
        · obtain ⟨z, rfl, z0, z1⟩ := withinAll_small r bs b1 h' x hx
          exact sc3I (by omega) (by omega)
theorem Evs.take {G : Hp} {ps : List Addr} {evs : List (List V)} (h : Evs G ps evs) (n : Nat) : Evs G (ps.take n) (evs.take n) := by
  refine ⟨by rw [List.length_take, List.length_take, h.1], fun i p xs h1 h2 => ?_⟩
  rw [List.getElem?_take] at h1 h2
  by_cases c : i < n
  · rw [if_pos c] at h1 h2
    exact h.2 i p xs h1 h2
  · rw [if_neg c] at h1
    cases h1
theorem Evs.drop {G : Hp} {ps : List Addr} {evs : List (List V)} (h : Evs G ps evs) (n : Nat) : Evs G (ps.drop n) (evs.drop n) := by
  refine ⟨by rw [List.length_drop, List.length_drop, h.1], fun i p xs h1 h2 => ?_⟩
  rw [List.getElem?_drop] at h1 h2
  exact h.2 (n + i) p xs h1 h2
theorem Evs.append {G : Hp} {ps qs : List Addr} {evs fvs : List (List V)} (h : Evs G ps evs) (k : Evs G qs fvs) : Evs G (ps ++ qs) (evs ++ fvs) := by
  refine ⟨by rw [List.length_append, List.length_append, h.1, k.1], fun i p xs h1 h2 => ?_⟩
  by_cases c : i < ps.length
  · rw [List.getElem?_append_left c] at h1
    rw [List.getElem?_append_left (by rw [← h.1]; exact c)] at h2
    exact h.2 i p xs h1 h2
  · rw [List.getElem?_append_right (by omega)] at h1
    rw [List.getElem?_append_right (by rw [← h.1]; omega), ← h.1] at h2
    exact k.2 _ p xs h1 h2
theorem Evs.one {G : Hp} {p : Addr} {xs : List V} (h : G p = some (.tup xs)) : Evs G [p] [xs] := by
  have := (Evs.nil G).snoc h
  exact this
theorem cutV_take (xs : List V) (n : Nat) (h : n ≤ xs.length) : cutV xs none (some (n : Int)) = xs.take n := by
  unfold cutV
  have e1 : HT.sIx xs.length 0 none = 0 := rfl
  have e2 : HT.sIx xs.length xs.length (some (n : Int)) = n := by
    show (if (n : Int) < 0 then ((n : Int) + (xs.length : Int)).toNat else min (n : Int).toNat xs.length) = n
    rw [if_neg (by omega)]
    omega
  rw [e1, e2]
  rfl
theorem cutV_drop (xs : List V) (n : Nat) (h : n ≤ xs.length) : cutV xs (some (n : Int)) none = xs.drop n := by
  unfold cutV
  have e1 : HT.sIx xs.length xs.length none = xs.length := rfl
  have e2 : HT.sIx xs.length 0 (some (n : Int)) = n := by
    show (if (n : Int) < 0 then ((n : Int) + (xs.length : Int)).toNat else min (n : Int).toNat xs.length) = n
    rw [if_neg (by omega)]
    omega
  rw [e1, e2, List.take_of_length_le (by rw [List.length_drop]; exact Nat.le_refl _)]
/-- the like of TrS.cat for a settled stand -/
theorem cat_s {K : PySem.W.Frag} {d : Addr} {H0 B G0 H : Hp} {a b : Addr} {xs ys : List V} {Q : VK} (S : Sd d H0 B G0 H) (ha : G0 a = some (.tup xs)) (hb : G0 b = some (.tup ys)) (hz : xs.length + ys.length ≤ 1000)
    (q : ∀ (c : Addr) (G1 H1 : Hp), Sd d H0 B G1 H1 → Ex G0 G1 → Ex H H1 → G1 c = some (.tup (xs ++ ys)) → Q (.ref c) H1) : rCatA K (.ref a) (.ref b) H Q :=
  cat_x S ha hb hz fun c G1 H1 S1 x1 y1 _ hc => q c G1 H1 S1 x1 y1 hc
end Rt

namespace Rt
open PySem PySem.Spec PyProof.Rows L2 RZ TL LamX
/-- a settled track and the tables -/
structure KS (d : Addr) (A0 B0 : Hp) (TT : List (Addr × Str)) (p : Addr) (ps : List Addr) (evs : List (List V)) (G H : Hp) : Prop where
  S : Sd d A0 B0 G H
  hp : G p = some (.lst (ps.map V.ref))
  hev : Evs G ps evs
  hT : Tabs TT H
section
variable {d : Addr} {A0 B0 : Hp} {TT : List (Addr × Str)} {p : Addr} {ps : List Addr} {evs : List (List V)} {G H : Hp}
theorem KS.put {x : Addr} (o : HO) (T : KS d A0 B0 TT p ps evs G H) (h : H x = none) : KS d A0 B0 TT p ps evs (upd G x o) (upd H x o) :=
  ⟨T.S.put o h, upPut (T.S.ex.free h) T.hp, T.hev.up (Ex.new (T.S.ex.free h)), tabs_new T.hT h⟩
theorem KS.lay {x : Addr} (o : HO) (T : KS d A0 B0 TT p ps evs G H) (h : H x = none) : KS d A0 B0 TT p ps evs G (upd H x o) :=
  ⟨T.S.lay o h, T.hp, T.hev, tabs_new T.hT h⟩
theorem KS.call {G' H' : Hp} (T : KS d A0 B0 TT p ps evs G H) (g : Go (· = d) G H G' H') (hD : Dr G' H' d) : KS d A0 B0 TT p ps evs G' H' :=
  ⟨T.S.call g hD, g.up _ _ T.hp, T.hev.up g.up, tabs_go T.hT T.S.dr g⟩
theorem KS.pure {H' : Hp} (T : KS d A0 B0 TT p ps evs G H) (g : Go (fun _ => False) G H G H') : KS d A0 B0 TT p ps evs G H' :=
  ⟨T.S.pure g, T.hp, T.hev, T.hT.ext (go_ex g)⟩
theorem KS.cat {K : PySem.W.Frag} {a b : Addr} {xs ys : List V} {Q : VK} (T : KS d A0 B0 TT p ps evs G H) (ha : G a = some (.tup xs)) (hb : G b = some (.tup ys)) (hz : xs.length + ys.length ≤ 1000)
    (q : ∀ (c : Addr) (G1 H1 : Hp), KS d A0 B0 TT p ps evs G1 H1 → Ex G G1 → G1 c = some (.tup (xs ++ ys)) → Q (.ref c) H1) : rCatA K (.ref a) (.ref b) H Q :=
  cat_s T.S ha hb hz fun c G1 H1 S1 x1 y1 hc => q c G1 H1 ⟨S1, x1 _ _ T.hp, T.hev.up x1, T.hT.ext y1⟩ x1 hc
theorem KS.clean (T : KS d A0 B0 TT p ps evs G H) : KS d (Rt.clean G) H TT p ps evs (Rt.clean G) H :=
  ⟨Sd.here (clean_ex T.S.ex) (clean_dr T.S.dr), clean_at T.hp (fun ps z => nomatch z), ⟨T.hev.1, fun i q xs h1 h2 => clean_at (T.hev.2 i q xs h1 h2) (fun ps z => nomatch z)⟩, T.hT⟩
end
def EvK (xs : List V) : Prop := Okx xs ∧ ∃ t ys, xs = .int t :: ys ∧ 0 ≤ t ∧ t ≤ 999999

/-- the settled heap, said less -/
theorem Go.weak {m : Addr → Prop} {G G' H H' : Hp} (g : Go m G H G' H') : Go m G H G H' := ⟨Ex.refl _, g.up.trans g.inn, fun _ _ h => h, g.keep, g.there⟩
theorem take_snoc {α : Type} {l : List α} {i : Nat} {x : α} (h : l[i]? = some x) : l.take (i + 1) = l.take i ++ [x] := by
  rw [List.take_add_one, h]
  rfl
theorem at_last {xs : List V} {z : Int} {j : Nat} {v : V} (e : z = -1) (h : xs[j]? = some v) (hj : j + 1 = xs.length) : atI xs z = some v := by
  subst e
  unfold atI ixN
  rw [if_neg (by decide), if_pos (by omega)]
  show xs[((-1 : Int) + (xs.length : Int)).toNat]? = some v
  rw [show ((-1 : Int) + (xs.length : Int)).toNat = j by omega, h]
theorem EvK.okx {xs : List V} (h : EvK xs) : Okx xs := h.1
end Rt

namespace Rt
open PySem PySem.Spec PyProof.Rows L2 RZ TL
def topS (i : Nat) : Stmt := PySem.Challenge.pw_reedtapes_k06_tracks_later.main.body.getD i (.Pass ⟨0, 0, 0, 0⟩)
section
variable {P : Program} {w : World} {K : PySem.W.Frag} {mg : Str → Option Value} {base : Heap}
abbrev s_begin : Stmt := topS 11
theorem sc_begin : FnScope ["_law_script"] ["_law_script"] (defScope s_begin) := ⟨rfl, rfl, rfl, by decide +kernel, rfl, by decide +kernel, by decide +kernel⟩
def spBegin (K : PySem.W.Frag) : Sp := fun vs H Q _ => ∃ (a : Addr) (ns : List Int) (H0 : Hp), vs = [.ref a] ∧ SqL K H a (ns.map V.int) ∧ Ex H0 H ∧
  ∀ (d : Addr) (H0' H' : Hp), Go (fun _ => False) H0 H H0' H' → Dr H0' H' d → H d = none → Q (.ref d) H'
theorem ok_begin {f : Addr} {fd : FuncData} (F : Fun K "_law_begin" "_law_begin" s_begin f fd) (m_list : mg "list" = none) : FnOk P w K mg base CX0 1 f fd ["_law_script"] (spBegin K) := by
  refine F.ok sc_begin (fun vs H Q E h => ?_) (fun cdv A outer s H vs Q E hr h => ?_)
  · obtain ⟨a, ns, H0, rfl, _⟩ := h
    rfl
  · obtain ⟨a, ns, H0, rfl, hS, e0, q⟩ := h
    refine ⟨_, (pss_one (ps_ret (pe_lst (pa_cons (pe_callTy call_list_of (by rfl) m_list bt_list (pa_cons (pe_slice sl_list (pv 0) po_none (po_some pe_int)) pa_nil)) (pa_cons pe_int (pa_cons pe_int (pa_cons pe_int (pa_cons pe_int pa_nil)))))))), ?_⟩
    obtain ⟨ms, hms⟩ : ∃ ms : List Int, cutV (ns.map V.int) none (some 63) = ms.map V.int := ⟨_, by unfold cutV; rw [← List.map_drop, ← List.map_take]⟩
    refine ⟨.ref a, rfl, 63, rfl, a, _, rfl, hS, fun c hc => ?_⟩
    refine ⟨c, _, rfl, .inl (SqL.of upd_same), fun l hl => ?_⟩
    rw [hms] at hl ⊢
    refine ⟨(by show 5 ≤ sizeLine; decide), fun d hd => ?_⟩
    have g0 := Go.refl (m := fun _ => False) e0
    have g1 := g0.lay (.lst (ms.map V.int)) hc
    have g2 := g1.put (.lst (ms.map V.int)) hl
    have g3 := g2.lay (.lst [.ref l, .int 0, .int 0, .int 1, .int 0]) hd
    have nH : H d = none := g2.fresh hd
    exact q d _ _ g3 ⟨⟨l, ms, 0, 0, 1, 0, upd_same, upd_same, by decide, by decide, by decide, by decide⟩, g2.fresh0 hd⟩ nH
abbrev s_pick : Stmt := topS 12
theorem sc_pick : FnScope ["_law_draw", "_law_many", "_law_cell", "_law_got"] ["_law_draw", "_law_many"] (defScope s_pick) := ⟨rfl, rfl, rfl, by decide +kernel, rfl, by decide +kernel, by decide +kernel⟩
def spPick : Sp := fun vs H Q _ => ∃ (d : Addr) (m : Int) (H0 : Hp), vs = [.ref d, .int m] ∧ 0 < m ∧ m ≤ 1000000000 ∧ Ex H0 H ∧ Dr H0 H d ∧
  ∀ (r : Int) (H' : Hp), 0 ≤ r → r < m → Go (· = d) H0 H H0 H' → Dr H0 H' d → Q (.int r) H'
theorem ok_pick {f : Addr} {fd : FuncData} (F : Fun K "_law_pick" "_law_pick" s_pick f fd) (m_len : mg "len" = none) : FnOk P w K mg base CX0 1 f fd ["_law_draw", "_law_many"] spPick := by
  refine F.ok sc_pick (fun vs H Q E h => ?_) (fun cdv A outer s H vs Q E hr h => ?_)
  · obtain ⟨d, m, H0, rfl, _⟩ := h
    rfl
  · obtain ⟨d, m, H0, rfl, m0, m1, e0, ⟨⟨a, ns, i, j, k, l, hd, ha, hi, hj, hk0, hk⟩, out⟩, q⟩ := h
    refine ⟨_, (C8.pss_cut (ps_if (PW.pt (pw_and (pt_cmpR op_lt (pe_ix ix_list (pv 0) pe_int (fun _ _ => rfl)) (pv 1) (nomark _)) (pw_and1 (pt_cmpR op_lt (pe_ix ix_list (pv 0) pe_int (fun _ _ => rfl)) (pe_callB call_len_seq (by rfl) m_len PySem.boot_len (pa_cons (pe_ix ix_list (pv 0) pe_int (fun _ _ => rfl)) pa_nil)) (nomark _))))) (pss_cons (ps_set (i := 2) sc_pick.nd rfl (Or.inl rfl) (pe_ix ix_list (pe_ix ix_list (pv 0) pe_int (fun _ _ => rfl)) (pe_ix ix_list (pv 0) pe_int (fun _ _ => rfl)) (fun _ _ => rfl)))
      (pss_cons (ps_asg (pe_op op_add (pe_ix ix_list (pv 0) pe_int (fun _ _ => rfl)) pe_int) (pg_sub (pv 0) pe_int set_list))
      (pss_cons (ps_asg pe_int (pg_sub (pv 0) pe_int set_list))
      (pss_one (ps_if (pt_cmpR op_ge (pv 2) (pe_op op_pow pe_int pe_int) (nomark _)) (pss_one (ps_asg (pv 2) (pg_sub (pv 0) pe_int set_list))) (pss_one (ps_asg (pe_op op_modN (pe_op op_add (pe_ix ix_list (pv 0) pe_int (fun _ _ => rfl)) (pv 2)) pe_int) (pg_sub (pv 0) pe_int set_list)))))))) pss_nil)
      (pss_cons (ps_if (pt_cmpR op_ge (pe_ix ix_list (pv 0) pe_int (fun _ _ => rfl)) (pv 1) (nomark _)) (pss_cons (ps_set (i := 3) sc_pick.nd rfl (Or.inl rfl) (pe_op op_modN (pe_ix ix_list (pv 0) pe_int (fun _ _ => rfl)) (pv 1)))
      (pss_cons (ps_asg (pe_op op_fdivN (pe_ix ix_list (pv 0) pe_int (fun _ _ => rfl)) (pv 1)) (pg_sub (pv 0) pe_int set_list))
      (pss_one (ps_ret (pv 3))))) pss_nil)
      (pss_cons (ps_asg (pe_op op_add (pe_ix ix_list (pv 0) pe_int (fun _ _ => rfl)) pe_int) (pg_sub (pv 0) pe_int set_list))
      (pss_cons (ps_asg (pe_op op_modN (pe_op op_add (pe_op op_add (pe_op op_pow (pe_ix ix_list (pv 0) pe_int (fun _ _ => rfl)) pe_int) (pe_op op_mul pe_int (pe_ix ix_list (pv 0) pe_int (fun _ _ => rfl)))) pe_int) pe_int) (pg_sub (pv 0) pe_int set_list))
      (pss_one (ps_ret (pe_op op_modN (pe_op op_fdivN (pe_ix ix_list (pv 0) pe_int (fun _ _ => rfl)) pe_int) (pv 1)))))))), ?_⟩
    have hA : H a = some (.lst (ns.map V.int)) := e0 _ _ ha
    have nda : a ≠ d := fun z => by rw [z, out] at ha; cases ha
    refine ⟨fun σ H' => ∃ (i j k : Int) (v : Option V), σ = [some (.ref d), some (.int m), v, none] ∧ H' d = some (.lst [.ref a, .int i, .int j, .int k, .int l]) ∧ 0 ≤ i ∧ 0 ≤ j ∧ 0 ≤ k ∧ k < 2000000000 ∧ Go (· = d) H0 H H0 H', ?_, ?_⟩
    · -- if draw[2] < many and draw[1] < len(draw[0])
      refine ⟨_, rfl, d, _, 2, _, rfl, rfl, SqL.of hd, at_of (j := 2) rfl rfl, _, rfl, _, _, rfl, rfl, _, rfl, ifD (fun c => ?_) (fun c => ?_)⟩
      · refine ⟨_, rfl, d, _, 1, _, rfl, rfl, SqL.of hd, at_of (j := 1) rfl rfl, _, rfl, d, _, 0, _, rfl, rfl, SqL.of hd, at_of (j := 0) rfl rfl, a, _, rfl, .inl (SqL.of hA), _, _, rfl, rfl, _, rfl, ?_⟩
        rw [List.length_map]
        refine ifD (fun c2 => ?_) (fun c2 => ?_)
        · obtain ⟨n, rfl⟩ : ∃ n : Nat, i = (n : Int) := ⟨i.toNat, by omega⟩
          have hn : n < ns.length := by omega
          have g0 := Go.refl (m := (· = d)) e0
          -- cell = draw[0][draw[1]]
          refine ⟨_, rfl, d, _, 0, _, rfl, rfl, SqL.of hd, at_of (j := 0) rfl rfl, _, rfl, d, _, 1, _, rfl, rfl, SqL.of hd, at_of (j := 1) rfl rfl, a, _, _, _, rfl, rfl, SqL.of hA, at_of (j := n) rfl (map_int (List.getElem?_eq_getElem hn)), ?_⟩
          -- draw[1] = draw[1] + 1
          refine ⟨_, rfl, d, _, 1, _, rfl, rfl, SqL.of hd, at_of (j := 1) rfl rfl, _, _, rfl, rfl, _, rfl, _, _, _, 1, rfl, rfl, hd, rfl, ?_⟩
          -- draw[2] = 0
          refine ⟨_, rfl, _, _, _, 2, rfl, rfl, upd_same, rfl, ?_⟩
          -- if cell >= 10 ** 18
          refine ⟨_, rfl, _, _, rfl, rfl, ⟨by decide, by decide, by decide⟩, _, _, rfl, rfl, _, rfl, ifD (fun c3 => ?_) (fun c3 => ?_)⟩
          · refine ⟨_, rfl, _, rfl, _, _, _, 2, rfl, rfl, upd_same, rfl, ?_⟩
            have c4 : (10 : Int) ^ (18 : Int).toNat ≤ ns[n] := c3
            exact ⟨_, ns[n], k, _, rfl, upd_same, by omega, Int.le_trans (by decide) c4, hk0, hk, ((g0.turnM _ rfl out).turnM _ rfl out).turnM _ rfl out⟩
          · refine ⟨_, rfl, d, _, 3, _, rfl, rfl, SqL.of upd_same, at_of (j := 3) rfl rfl, _, rfl, _, _, rfl, rfl, _, _, rfl, rfl, (by show (1000000007 : Int) ≠ 0; decide), _, rfl, _, _, _, 3, rfl, rfl, upd_same, rfl, ?_⟩
            have f0 := Int.fmod_nonneg_of_pos (k + ns[n]) (show (0 : Int) < 1000000007 by decide)
            have f1 := Int.fmod_lt_of_pos (k + ns[n]) (show (0 : Int) < 1000000007 by decide)
            exact ⟨_, 0, _, _, rfl, upd_same, by omega, by decide, f0, by omega, ((g0.turnM _ rfl out).turnM _ rfl out).turnM _ rfl out⟩
        · exact ⟨i, j, k, none, rfl, hd, hi, hj, hk0, hk, Go.refl e0⟩
      · exact ⟨i, j, k, none, rfl, hd, hi, hj, hk0, hk, Go.refl e0⟩
    · rintro σ' H' ⟨i, j, k, v, rfl, hd, hi, hj, hk0, hk, g⟩
      -- if draw[2] >= many
      refine ⟨_, rfl, d, _, 2, _, rfl, rfl, SqL.of hd, at_of (j := 2) rfl rfl, _, rfl, _, _, rfl, rfl, _, rfl, ifD (fun c => ?_) (fun c => ?_)⟩
      · refine ⟨_, rfl, d, _, 2, _, rfl, rfl, SqL.of hd, at_of (j := 2) rfl rfl, _, rfl, _, _, rfl, rfl, (by omega : m ≠ 0), ?_⟩
        refine ⟨_, rfl, d, _, 2, _, rfl, rfl, SqL.of hd, at_of (j := 2) rfl rfl, _, rfl, _, _, rfl, rfl, ⟨by omega, by omega⟩, _, rfl, _, _, _, 2, rfl, rfl, hd, rfl, ?_⟩
        have f0 := Int.fmod_nonneg_of_pos j m0
        have f1 := Int.fmod_lt_of_pos j m0
        have f2 : 0 ≤ j.fdiv m := Int.fdiv_nonneg hj (by omega)
        exact ⟨_, rfl, q _ _ f0 f1 (g.turnM _ rfl out) ⟨⟨a, ns, i, _, k, l, upd_same, ha, hi, f2, hk0, hk⟩, out⟩⟩
      · refine ⟨_, rfl, d, _, 4, _, rfl, rfl, SqL.of hd, at_of (j := 4) rfl rfl, _, _, rfl, rfl, _, rfl, _, _, _, 4, rfl, rfl, hd, rfl, ?_⟩
        refine ⟨_, rfl, d, _, 3, _, rfl, rfl, SqL.of upd_same, at_of (j := 3) rfl rfl, _, _, rfl, rfl, ⟨by decide, by decide, by omega⟩, _, rfl, d, _, 4, _, rfl, rfl, SqL.of upd_same, at_of (j := 4) rfl rfl, _, _, rfl, rfl, .inl ⟨by decide, by decide⟩, _, _, rfl, rfl, _, _, rfl, rfl, _, _, rfl, rfl, (by show (1000000007 : Int) ≠ 0; decide), _, rfl, _, _, _, 3, rfl, rfl, upd_same, rfl, ?_⟩
        have f0 := Int.fmod_nonneg_of_pos (k ^ Int.toNat 3 + 40503 * (l + 1) + 17) (show (0 : Int) < 1000000007 by decide)
        have f1 := Int.fmod_lt_of_pos (k ^ Int.toNat 3 + 40503 * (l + 1) + 17) (show (0 : Int) < 1000000007 by decide)
        refine ⟨_, rfl, d, _, 3, _, rfl, rfl, SqL.of upd_same, at_of (j := 3) rfl rfl, _, _, rfl, rfl, ⟨by decide, by decide⟩, _, rfl, _, _, rfl, rfl, (by omega : m ≠ 0), ?_⟩
        exact q _ _ (Int.fmod_nonneg_of_pos _ m0) (Int.fmod_lt_of_pos _ m0) ((g.turnM _ rfl out).turnM _ rfl out) ⟨⟨a, ns, i, j, _, _, upd_same, ha, hi, hj, f0, by omega⟩, out⟩
abbrev s_one : Stmt := topS 19
theorem sc_one : FnScope ["_law_draw", "_law_some"] ["_law_draw", "_law_some"] (defScope s_one) := ⟨rfl, rfl, rfl, by decide +kernel, rfl, by decide +kernel, by decide +kernel⟩
def spOne : Sp := fun vs H Q _ => ∃ (d p : Addr) (xs : List V) (H0 : Hp), vs = [.ref d, .ref p] ∧ Ex H0 H ∧ Dr H0 H d ∧ H0 p = some (.lst xs) ∧ 0 < xs.length ∧ xs.length ≤ 1000000000 ∧
  ∀ (i : Nat) (v : V) (H' : Hp), xs[i]? = some v → Go (· = d) H0 H H0 H' → Dr H0 H' d → Q v H'
theorem ok_one {f : Addr} {fd : FuncData} (F : Fun K "_law_one" "_law_one" s_one f fd) (D__law_pick : Def P w K mg base "_law_pick" 1 spPick) (m_len : mg "len" = none) : FnOk P w K mg base CX0 2 f fd ["_law_draw", "_law_some"] spOne := by
  refine F.ok sc_one (fun vs H Q E h => ?_) (fun cdv A outer s H vs Q E hr h => ?_)
  · obtain ⟨d, p, xs, H0, rfl, _⟩ := h
    rfl
  · obtain ⟨d, p, xs, H0, rfl, e0, hD, hp, l0, l1, q⟩ := h
    refine ⟨_, (pss_one (ps_ret (pe_ix ix_list (pv 1) (pe_d D__law_pick (hr.mono (by decide)) rfl (pa_cons (pv 0) (pa_cons (pe_callB call_len_seq (by rfl) m_len PySem.boot_len (pa_cons (pv 1) pa_nil)) pa_nil))) (fun _ _ => rfl)))), ?_⟩
    refine ⟨.ref p, rfl, .ref d, rfl, .ref p, rfl, p, xs, rfl, .inl (SqL.of (e0 _ _ hp)), d, (xs.length : Int), H0, rfl, by omega, by omega, e0, hD, fun r H' r0 r1 g hD' => ?_⟩
    obtain ⟨j, rfl⟩ : ∃ j : Nat, r = (j : Int) := ⟨r.toNat, by omega⟩
    have hj : j < xs.length := by omega
    exact ⟨p, xs, (j : Int), _, rfl, rfl, SqL.of (g.inn _ _ hp), at_of (j := j) rfl (List.getElem?_eq_getElem hj), q j _ _ (List.getElem?_eq_getElem hj) g hD'⟩
abbrev s_far : Stmt := topS 20
theorem sc_far : FnScope ["_law_draw", "_law_number"] ["_law_draw"] (defScope s_far) := ⟨rfl, rfl, rfl, by decide +kernel, rfl, by decide +kernel, by decide +kernel⟩
def spFar : Sp := fun vs H Q _ => ∃ (d : Addr) (H0 : Hp), vs = [.ref d] ∧ Ex H0 H ∧ Dr H0 H d ∧
  ∀ (r : Int) (H0' H' : Hp), r.natAbs < 10 ^ 30 → Go (· = d) H0 H H0' H' → Dr H0' H' d → Q (.int r) H'
theorem ok_far {f : Addr} {fd : FuncData} (F : Fun K "_law_far" "_law_far" s_far f fd) (D__law_pick : Def P w K mg base "_law_pick" 1 spPick) : FnOk P w K mg base CX0 2 f fd ["_law_draw"] spFar := by
  refine F.ok sc_far (fun vs H Q E h => ?_) (fun cdv A outer s H vs Q E hr h => ?_)
  · obtain ⟨d, H0, rfl, _⟩ := h
    rfl
  · obtain ⟨d, H0, rfl, e0, hD, q⟩ := h
    refine ⟨_, (pss_cons (ps_set (i := 1) sc_far.nd rfl (Or.inl rfl) (pe_op op_add (pe_op op_add (pe_op op_pow pe_int pe_int) (pe_d D__law_pick (hr.mono (by decide)) rfl (pa_cons (pv 0) (pa_cons (pe_op op_pow pe_int pe_int) pa_nil)))) (pe_op op_mul (pe_op op_pow pe_int pe_int) (pe_d D__law_pick (hr.mono (by decide)) rfl (pa_cons (pv 0) (pa_cons pe_int pa_nil))))))
      (pss_one (ps_ret (pe_ix ix_tup (pe_tup (pa_cons (pv 1) (pa_cons (pe_op op_sub pe_int (pv 1)) pa_nil))) (pe_d D__law_pick (hr.mono (by decide)) rfl (pa_cons (pv 0) (pa_cons pe_int pa_nil))) (fun _ _ => rfl))))), ?_⟩
    have S := Sd.here e0 hD
    have b1 : (10 : Int) ^ (9 : Int).toNat ≤ 1000000000 := by decide
    refine ⟨_, _, rfl, rfl, ⟨by decide, by decide, by decide⟩, _, rfl, _, _, rfl, rfl, ⟨by decide, by decide, by decide⟩, d, _, H0, rfl, (by show (0 : Int) < 10 ^ (9 : Int).toNat; decide), b1, S.ex, S.dr, fun x H x0 x1 g hD => ?_⟩
    have S := S.call g hD
    have x2 : x < 1000000000 := Int.lt_of_lt_of_le x1 b1
    refine ⟨_, _, rfl, rfl, _, _, rfl, rfl, ⟨by decide, by decide, by decide⟩, _, rfl, d, 2, H0, rfl, by decide, by decide, S.ex, S.dr, fun y H y0 y1 g hD => ?_⟩
    have S := S.call g hD
    refine ⟨_, _, rfl, rfl, .inr ⟨by omega, by omega⟩, _, _, rfl, rfl, ?_⟩
    have ez : ∀ z : Int, z = (10 : Int) ^ (7 : Int).toNat + x + 10 ^ (28 : Int).toNat * y → z.natAbs < 10 ^ 30 ∧ (0 - z).natAbs < 10 ^ 30 := fun z e => by
      have c1 : (10 : Int) ^ (7 : Int).toNat = 10000000 := by decide
      have c2 : (10 : Int) ^ (28 : Int).toNat = 10000000000000000000000000000 := by decide
      rw [c1, c2] at e
      have : (10 : Nat) ^ 30 = 1000000000000000000000000000000 := by decide
      omega
    obtain ⟨z1, z2⟩ := ez _ rfl
    refine ⟨_, rfl, _, rfl, _, _, rfl, rfl, (by show 2 ≤ sizeLine; decide), fun t ht => ?_⟩
    have S := S.put (.tup [.int ((10 : Int) ^ (7 : Int).toNat + x + 10 ^ (28 : Int).toNat * y), .int (0 - ((10 : Int) ^ (7 : Int).toNat + x + 10 ^ (28 : Int).toNat * y))]) ht
    refine ⟨_, rfl, d, 2, _, rfl, by decide, by decide, S.ex, S.dr, fun u H u0 u1 g hD => ?_⟩
    have S := S.call g hD
    have ht1 := S.ex _ _ upd_same
    by_cases c : u = 0
    · subst c
      exact ⟨t, _, _, _, rfl, rfl, SqT.of ht1, at_of (j := 0) rfl rfl, q _ _ _ z1 S.go S.dr⟩
    · obtain rfl : u = 1 := by omega
      exact ⟨t, _, _, _, rfl, rfl, SqT.of ht1, at_of (j := 1) rfl rfl, q _ _ _ z2 S.go S.dr⟩
abbrev s_same : Stmt := topS 22
theorem sc_same : FnScope ["_law_found", "_law_due", "_law_k"] ["_law_found", "_law_due"] (defScope s_same) := ⟨rfl, rfl, rfl, by decide +kernel, rfl, by decide +kernel, by decide +kernel⟩
/-- both stand for the same datum d, at most n deep -/
def spSame (K : PySem.W.Frag) (n : Nat) : Sp := fun vs H Q _ => ∃ (v u : V) (d : PyData) (H0 : Hp), vs = [v, u] ∧ Ex H0 H ∧ Dp K H v d ∧ Dp K H u d ∧ d.depth ≤ n ∧ smA d ∧ ∀ H', Go (fun _ => False) H0 H H0 H' → Q (.bl true) H'
def spRec (K : PySem.W.Frag) (n : Nat) : Sp := fun vs H Q E => ∃ m, n = m + 1 ∧ spSame K m vs H Q E
theorem same_step {f : Addr} {fd : FuncData} (n : Nat) (F : Fun K "_law_same" "_law_same" s_same f fd) (D__law_same : Def P w K mg base "_law_same" n (spRec K n)) (m_isinstance : mg "isinstance" = none) (m_bool : mg "bool" = none) (m_int : mg "int" = none) (m_str : mg "str" = none)
    (m_list : mg "list" = none) (m_tuple : mg "tuple" = none) (m_len : mg "len" = none) (m_all : mg "all" = none) (m_range : mg "range" = none) : FnOk P w K mg base CX0 (n + 1) f fd ["_law_found", "_law_due"] (spSame K n) := by
  refine F.ok sc_same (fun vs H Q E h => ?_) (fun cdv A outer s H vs Q E hr h => ?_)
  · obtain ⟨v, u, d, H0, rfl, _⟩ := h
    rfl
  · obtain ⟨v, u, d, H0, rfl, e0, hv, hu, hdep, hsm, q⟩ := h
    refine ⟨_, (pss_cons (ps_if (pt_cmpR op_isN (pv 1) pe_non (nomark _)) (pss_one (ps_ret (pe_cmpR op_isN (pv 0) pe_non (nomark _)))) pss_nil)
      (pss_cons (ps_if (PW.pt (pw_or (pt_val (pe_callB call_isi (by rfl) m_isinstance bt_isinstance (pa_cons (pv 1) (pa_cons (pe_bltn (v := .ty "bool") (by rfl) m_bool bt_bool rfl) pa_nil)))) (pw_or1 (pt_val (pe_callB call_isi (by rfl) m_isinstance bt_isinstance (pa_cons (pv 0) (pa_cons (pe_bltn (v := .ty "bool") (by rfl) m_bool bt_bool rfl) pa_nil))))))) (pss_one (ps_ret (pe_and (pe_callB call_isi (by rfl) m_isinstance bt_isinstance (pa_cons (pv 1) (pa_cons (pe_bltn (v := .ty "bool") (by rfl) m_bool bt_bool rfl) pa_nil))) (pe_and (pe_callB call_isi (by rfl) m_isinstance bt_isinstance (pa_cons (pv 0) (pa_cons (pe_bltn (v := .ty "bool") (by rfl) m_bool bt_bool rfl) pa_nil))) (pe_one (pe_cmpR op_eq (pv 0) (pv 1) (nomark _))))))) pss_nil)
      (pss_cons (ps_if (pt_val (pe_callB call_isiT (by rfl) m_isinstance bt_isinstance (pa_cons (pv 1) (pa_cons (pe_tup (pa_cons (pe_bltn (v := .ty "int") (by rfl) m_int bt_int rfl) (pa_cons (pe_bltn (v := .ty "str") (by rfl) m_str bt_str rfl) pa_nil))) pa_nil)))) (pss_one (ps_ret (pe_and (pe_cmpR op_eq (pe_callB call_isi (by rfl) m_isinstance bt_isinstance (pa_cons (pv 0) (pa_cons (pe_bltn (v := .ty "int") (by rfl) m_int bt_int rfl) pa_nil))) (pe_callB call_isi (by rfl) m_isinstance bt_isinstance (pa_cons (pv 1) (pa_cons (pe_bltn (v := .ty "int") (by rfl) m_int bt_int rfl) pa_nil))) (nomark _)) (pe_and (pe_callB call_isiT (by rfl) m_isinstance bt_isinstance (pa_cons (pv 0) (pa_cons (pe_tup (pa_cons (pe_bltn (v := .ty "int") (by rfl) m_int bt_int rfl) (pa_cons (pe_bltn (v := .ty "str") (by rfl) m_str bt_str rfl) pa_nil))) pa_nil))) (pe_one (pe_cmpR op_eq (pv 0) (pv 1) (nomark _))))))) pss_nil)
      (pss_cons (ps_if (PW.pt (pw_or (pt_cmpR op_ne (pe_callB call_isi (by rfl) m_isinstance bt_isinstance (pa_cons (pv 0) (pa_cons (pe_bltn (v := .ty "list") (by rfl) m_list bt_list rfl) pa_nil))) (pe_callB call_isi (by rfl) m_isinstance bt_isinstance (pa_cons (pv 1) (pa_cons (pe_bltn (v := .ty "list") (by rfl) m_list bt_list rfl) pa_nil))) (nomark _)) (pw_or1 (pt_cmpR op_ne (pe_callB call_isi (by rfl) m_isinstance bt_isinstance (pa_cons (pv 0) (pa_cons (pe_bltn (v := .ty "tuple") (by rfl) m_tuple bt_tuple rfl) pa_nil))) (pe_callB call_isi (by rfl) m_isinstance bt_isinstance (pa_cons (pv 1) (pa_cons (pe_bltn (v := .ty "tuple") (by rfl) m_tuple bt_tuple rfl) pa_nil))) (nomark _))))) (pss_one (ps_ret pe_bl)) pss_nil)
      (pss_one (ps_ret (pe_and (pe_cmpR op_eq (pe_callB call_len_seq (by rfl) m_len PySem.boot_len (pa_cons (pv 0) pa_nil)) (pe_callB call_len_seq (by rfl) m_len PySem.boot_len (pa_cons (pv 1) pa_nil)) (nomark _)) (pe_one (pe_callB (cr_all rfl) (by rfl) m_all bt_all (pa_cons (pe_lc (own := [("_law_k", 2)]) (g := gName 2) (tt := tYes) rfl sc_same.nd (pi_range1 rfl m_range (pa_cons (pe_callB call_len_seq (by rfl) m_len PySem.boot_len (pa_cons (pv 1) pa_nil)) pa_nil)) (blkOk_by (N := ["_law_found", "_law_due", "_law_k"]) (sc := defScope s_same) (by decide +kernel)) (fun _ _ _ _ _ => pg_name (i := 2) sc_same.nd rfl (Or.inl rfl)) (fun _ _ _ _ _ => pts_nil) (fun _ _ _ _ _ => (pe_d D__law_same hr rfl (pa_cons (pe_ix (r := rIx K) ix_seq (pv 0) (pv 2) (fun _ _ => rfl)) (pa_cons (pe_ix (r := rIx K) ix_seq (pv 1) (pv 2) (fun _ _ => rfl)) pa_nil))))) pa_nil)))))))))), ?_⟩
    have g0 := Go.refl (m := fun _ => False) e0
    cases hu with
    | non =>
      cases hv
      refine ⟨_, rfl, rfl, _, rfl, ifT rfl ?_⟩
      exact ⟨_, rfl, rfl, q _ g0⟩
    | bl b =>
      cases hv
      refine ⟨_, rfl, rfl, _, rfl, ifF rfl ?_⟩
      refine ⟨_, rfl, _, _, _, _, true, rfl, .ty "bool", .base (.bl b), kit_ty (by decide +kernel), _, rfl, ifT rfl ?_⟩
      refine ⟨_, rfl, _, _, _, _, true, rfl, .ty "bool", .base (.bl b), kit_ty (by decide +kernel), _, rfl, ifT rfl ?_⟩
      refine ⟨_, rfl, _, _, _, _, true, rfl, .ty "bool", .base (.bl b), kit_ty (by decide +kernel), _, rfl, ifT rfl ?_⟩
      refine ⟨_, rfl, _, rfl, rfl, ?_⟩
      rw [decide_eq_true rfl]
      exact q _ g0
    | int i =>
      cases hv
      refine ⟨_, rfl, rfl, _, rfl, ifF rfl ?_⟩
      refine ⟨_, rfl, _, _, _, _, false, rfl, .ty "bool", .base (.int i), kit_ty (by decide +kernel), _, rfl, ifF rfl ?_⟩
      refine ⟨_, rfl, _, _, _, _, false, rfl, .ty "bool", .base (.int i), kit_ty (by decide +kernel), _, rfl, ifF rfl ?_⟩
      refine ⟨_, rfl, (by show 2 ≤ sizeLine; decide), fun t ht => ?_⟩
      have g1 := g0.lay (.tup [.ty "int", .ty "str"]) ht
      refine ⟨_, t, _, _, [.type "int", .type "str"], true, rfl, upd_same, .cons (.ty _) (.cons (.ty _) .nil), .base (.int i), kitAny_cons (b := true) (kit_ty (by decide +kernel)) (fun z => nomatch z) (fun _ => rfl), _, rfl, ifT rfl ?_⟩
      refine ⟨_, rfl, _, _, _, _, true, rfl, .ty "int", .base (.int i), kit_ty (by decide +kernel), _, rfl, _, _, _, _, true, rfl, .ty "int", .base (.int i), kit_ty (by decide +kernel), rfl, _, rfl, ifT rfl ?_⟩
      refine ⟨_, rfl, (by show 2 ≤ sizeLine; decide), fun t2 ht2 => ?_⟩
      have g2 := g1.lay (.tup [.ty "int", .ty "str"]) ht2
      refine ⟨_, t2, _, _, [.type "int", .type "str"], true, rfl, upd_same, .cons (.ty _) (.cons (.ty _) .nil), .base (.int i), kitAny_cons (b := true) (kit_ty (by decide +kernel)) (fun z => nomatch z) (fun _ => rfl), _, rfl, ifT rfl ?_⟩
      refine ⟨_, rfl, _, rfl, rfl, ?_⟩
      rw [decide_eq_true rfl]
      exact q _ g2
    | str x =>
      cases hv
      refine ⟨_, rfl, rfl, _, rfl, ifF rfl ?_⟩
      refine ⟨_, rfl, _, _, _, _, false, rfl, .ty "bool", .base (.str x), kit_ty (by decide +kernel), _, rfl, ifF rfl ?_⟩
      refine ⟨_, rfl, _, _, _, _, false, rfl, .ty "bool", .base (.str x), kit_ty (by decide +kernel), _, rfl, ifF rfl ?_⟩
      refine ⟨_, rfl, (by show 2 ≤ sizeLine; decide), fun t ht => ?_⟩
      have g1 := g0.lay (.tup [.ty "int", .ty "str"]) ht
      refine ⟨_, t, _, _, [.type "int", .type "str"], true, rfl, upd_same, .cons (.ty _) (.cons (.ty _) .nil), .base (.str x), kitAny_cons (b := false) (kit_ty (by decide +kernel)) (fun _ => kitAny_cons (b := true) (kit_ty (by decide +kernel)) (fun z => nomatch z) (fun _ => rfl)) (fun z => nomatch z), _, rfl, ifT rfl ?_⟩
      refine ⟨_, rfl, _, _, _, _, false, rfl, .ty "int", .base (.str x), kit_ty (by decide +kernel), _, rfl, _, _, _, _, false, rfl, .ty "int", .base (.str x), kit_ty (by decide +kernel), rfl, _, rfl, ifT rfl ?_⟩
      refine ⟨_, rfl, (by show 2 ≤ sizeLine; decide), fun t2 ht2 => ?_⟩
      have g2 := g1.lay (.tup [.ty "int", .ty "str"]) ht2
      refine ⟨_, t2, _, _, [.type "int", .type "str"], true, rfl, upd_same, .cons (.ty _) (.cons (.ty _) .nil), .base (.str x), kitAny_cons (b := false) (kit_ty (by decide +kernel)) (fun _ => kitAny_cons (b := true) (kit_ty (by decide +kernel)) (fun z => nomatch z) (fun _ => rfl)) (fun z => nomatch z), _, rfl, ifT rfl ?_⟩
      refine ⟨_, rfl, _, rfl, rfl, ?_⟩
      rw [decide_eq_true rfl]
      exact q _ g2
    | @lst pu us ds su au =>
      cases hv with
      | @lst pv_ vs _ sv av =>
      refine ⟨_, rfl, rfl, _, rfl, ifF rfl ?_⟩
      refine ⟨_, rfl, _, _, _, _, false, rfl, .ty "bool", tyL su, kit_ty (by decide +kernel), _, rfl, ifF rfl ?_⟩
      refine ⟨_, rfl, _, _, _, _, false, rfl, .ty "bool", tyL sv, kit_ty (by decide +kernel), _, rfl, ifF rfl ?_⟩
      refine ⟨_, rfl, (by show 2 ≤ sizeLine; decide), fun t ht => ?_⟩
      have g1 := g0.lay (.tup [.ty "int", .ty "str"]) ht
      have x1 := go_ex g1
      refine ⟨_, t, _, _, [.type "int", .type "str"], false, rfl, upd_same, .cons (.ty _) (.cons (.ty _) .nil), tyL (x1.seq su), kitAny_cons (b := false) (kit_ty (by decide +kernel)) (fun _ => kitAny_cons (b := false) (kit_ty (by decide +kernel)) (fun _ => kitAny_nil) (fun z => nomatch z)) (fun z => nomatch z), _, rfl, ifF rfl ?_⟩
      refine ⟨_, rfl, _, _, _, _, true, rfl, .ty "list", tyL (x1.seq sv), kit_ty (by decide +kernel), _, rfl, _, _, _, _, true, rfl, .ty "list", tyL (x1.seq su), kit_ty (by decide +kernel), rfl, _, rfl, ifF rfl ?_⟩
      refine ⟨_, rfl, _, _, _, _, false, rfl, .ty "tuple", tyL (x1.seq sv), kit_ty (by decide +kernel), _, rfl, _, _, _, _, false, rfl, .ty "tuple", tyL (x1.seq su), kit_ty (by decide +kernel), rfl, _, rfl, ifF rfl ?_⟩
      have lv := dpa_len av
      have lu := dpa_len au
      refine ⟨_, rfl, pv_, vs, rfl, .inl (x1.seq sv), _, rfl, pu, us, rfl, .inl (x1.seq su), rfl, _, rfl, ifT (decide_eq_true (by rw [lv, lu])) ?_⟩
      refine ⟨_, rfl, pu, us, rfl, .inl (x1.seq su), _, rfl, by omega, by have := hsm.1; omega, fun D hD => lc_range (lo := 0) (n := us.length) (fun i H' => H' D = some (.lst (List.replicate i (.bl true))) ∧ Go (fun _ => False) H0 H H0 H') ⟨upd_same, g1.lay _ hD⟩ (fun i H' hi p => ?_) (fun H1 p => ?_)⟩
      · obtain ⟨d, hd⟩ : ∃ d, ds[i]? = some d := ⟨_, List.getElem?_eq_getElem (by omega)⟩
        obtain ⟨a, ha, da⟩ := dpa_at _ _ i d av hd
        obtain ⟨b, hb, db⟩ := dpa_at _ _ i d au hd
        have dd := dep_at hd
        have xp := go_ex p.2
        obtain ⟨m, rfl⟩ : ∃ m, n = m + 1 := ⟨n - 1, by have : PyData.depthAll ds + 1 ≤ n := hdep; omega⟩
        have dm : d.depth ≤ m := by
          have : PyData.depthAll ds + 1 ≤ m + 1 := hdep
          omega
        refine ⟨rfl, ?_⟩
        refine ⟨_, rfl, _, rfl, .inl ⟨pv_, vs, _, a, rfl, rfl, xp.seq sv, at_of (j := i) (by omega) ha, _, rfl, _, rfl, .inl ⟨pu, us, _, b, rfl, rfl, xp.seq su, at_of (j := i) (by omega) hb, ?_⟩⟩⟩
        refine ⟨m, rfl, a, b, d, H0, rfl, p.2.inn, dp_up xp _ _ da, dp_up xp _ _ db, dm, sm_at hsm.2 hd, fun H2 g2 => ?_⟩
        have hD2 := g2.keep _ _ p.1 (fun z => z)
        refine ⟨_, hD2, mem_lt (by have := hsm.1; rw [List.length_replicate]; omega), ?_, (p.2.then g2).turn _ (g1.fresh hD) (g1.fresh0 hD)⟩
        rw [upd_same, List.replicate_succ']
      · have pn : H1 D = some (.lst ((List.replicate us.length true).map V.bl)) := by rw [p.1, List.map_replicate]
        refine ⟨D, _, rfl, SqL.of pn, ?_⟩
        rw [all_rep]
        exact q _ p.2
    | @tup pu us ds su au =>
      cases hv with
      | @tup pv_ vs _ sv av =>
      refine ⟨_, rfl, rfl, _, rfl, ifF rfl ?_⟩
      refine ⟨_, rfl, _, _, _, _, false, rfl, .ty "bool", tyT su, kit_ty (by decide +kernel), _, rfl, ifF rfl ?_⟩
      refine ⟨_, rfl, _, _, _, _, false, rfl, .ty "bool", tyT sv, kit_ty (by decide +kernel), _, rfl, ifF rfl ?_⟩
      refine ⟨_, rfl, (by show 2 ≤ sizeLine; decide), fun t ht => ?_⟩
      have g1 := g0.lay (.tup [.ty "int", .ty "str"]) ht
      have x1 := go_ex g1
      refine ⟨_, t, _, _, [.type "int", .type "str"], false, rfl, upd_same, .cons (.ty _) (.cons (.ty _) .nil), tyT (x1.tup su), kitAny_cons (b := false) (kit_ty (by decide +kernel)) (fun _ => kitAny_cons (b := false) (kit_ty (by decide +kernel)) (fun _ => kitAny_nil) (fun z => nomatch z)) (fun z => nomatch z), _, rfl, ifF rfl ?_⟩
      refine ⟨_, rfl, _, _, _, _, false, rfl, .ty "list", tyT (x1.tup sv), kit_ty (by decide +kernel), _, rfl, _, _, _, _, false, rfl, .ty "list", tyT (x1.tup su), kit_ty (by decide +kernel), rfl, _, rfl, ifF rfl ?_⟩
      refine ⟨_, rfl, _, _, _, _, true, rfl, .ty "tuple", tyT (x1.tup sv), kit_ty (by decide +kernel), _, rfl, _, _, _, _, true, rfl, .ty "tuple", tyT (x1.tup su), kit_ty (by decide +kernel), rfl, _, rfl, ifF rfl ?_⟩
      have lv := dpa_len av
      have lu := dpa_len au
      refine ⟨_, rfl, pv_, vs, rfl, .inr (x1.tup sv), _, rfl, pu, us, rfl, .inr (x1.tup su), rfl, _, rfl, ifT (decide_eq_true (by rw [lv, lu])) ?_⟩
      refine ⟨_, rfl, pu, us, rfl, .inr (x1.tup su), _, rfl, by omega, by have := hsm.1; omega, fun D hD => lc_range (lo := 0) (n := us.length) (fun i H' => H' D = some (.lst (List.replicate i (.bl true))) ∧ Go (fun _ => False) H0 H H0 H') ⟨upd_same, g1.lay _ hD⟩ (fun i H' hi p => ?_) (fun H1 p => ?_)⟩
      · obtain ⟨d, hd⟩ : ∃ d, ds[i]? = some d := ⟨_, List.getElem?_eq_getElem (by omega)⟩
        obtain ⟨a, ha, da⟩ := dpa_at _ _ i d av hd
        obtain ⟨b, hb, db⟩ := dpa_at _ _ i d au hd
        have dd := dep_at hd
        have xp := go_ex p.2
        obtain ⟨m, rfl⟩ : ∃ m, n = m + 1 := ⟨n - 1, by have : PyData.depthAll ds + 1 ≤ n := hdep; omega⟩
        have dm : d.depth ≤ m := by
          have : PyData.depthAll ds + 1 ≤ m + 1 := hdep
          omega
        refine ⟨rfl, ?_⟩
        refine ⟨_, rfl, _, rfl, .inr (.inl ⟨pv_, vs, _, a, rfl, rfl, xp.tup sv, at_of (j := i) (by omega) ha, _, rfl, _, rfl, .inr (.inl ⟨pu, us, _, b, rfl, rfl, xp.tup su, at_of (j := i) (by omega) hb, ?_⟩)⟩)⟩
        refine ⟨m, rfl, a, b, d, H0, rfl, p.2.inn, dp_up xp _ _ da, dp_up xp _ _ db, dm, sm_at hsm.2 hd, fun H2 g2 => ?_⟩
        have hD2 := g2.keep _ _ p.1 (fun z => z)
        refine ⟨_, hD2, mem_lt (by have := hsm.1; rw [List.length_replicate]; omega), ?_, (p.2.then g2).turn _ (g1.fresh hD) (g1.fresh0 hD)⟩
        rw [upd_same, List.replicate_succ']
      · have pn : H1 D = some (.lst ((List.replicate us.length true).map V.bl)) := by rw [p.1, List.map_replicate]
        refine ⟨D, _, rfl, SqL.of pn, ?_⟩
        rw [all_rep]
        exact q _ p.2
theorem ok_same {f : Addr} {fd : FuncData} (F : Fun K "_law_same" "_law_same" s_same f fd) (bF : L2.Binds K fd ["_law_found", "_law_due"] []) (gF : mg "_law_same" = some (.ref f)) (m_isinstance : mg "isinstance" = none) (m_bool : mg "bool" = none) (m_int : mg "int" = none) (m_str : mg "str" = none)
    (m_list : mg "list" = none) (m_tuple : mg "tuple" = none) (m_len : mg "len" = none) (m_all : mg "all" = none) (m_range : mg "range" = none) : ∀ n, FnOk P w K mg base CX0 (n + 1) f fd ["_law_found", "_law_due"] (spSame K n)
  | 0 => same_step 0 F ⟨f, fd, _, _, gF, ⟨fun _ _ _ _ ⟨_, e, _⟩ => by omega, fun _ _ _ _ _ _ _ _ _ _ _ _ _ ⟨_, e, _⟩ => by omega⟩, F.kp, bF, .nil⟩ m_isinstance m_bool m_int m_str m_list m_tuple m_len m_all m_range
  | n + 1 => same_step (n + 1) F ⟨f, fd, _, _, gF, (ok_same F bF gF m_isinstance m_bool m_int m_str m_list m_tuple m_len m_all m_range n).imp fun vs H Q E ⟨m, e, h⟩ => by
      obtain rfl : m = n := by omega
      exact h, F.kp, bF, .nil⟩ m_isinstance m_bool m_int m_str m_list m_tuple m_len m_all m_range
abbrev s_is_within : Stmt := topS 6
theorem sc_is_within : FnScope ["thing", "low", "high"] ["thing", "low", "high"] (defScope s_is_within) := ⟨rfl, rfl, rfl, by decide +kernel, rfl, by decide +kernel, by decide +kernel⟩
theorem tyS {K : PySem.W.Frag} {H : Hp} (s : Str) : TyX K H (.str s) (.type "str") := .base (.str s)
theorem tyI {K : PySem.W.Frag} {H : Hp} (z : Int) : TyX K H (.int z) (.type "int") := .base (.int z)
/-- a number between its bounds -/
def spWithin : Sp := fun vs H Q _ => ∃ (x : V) (lo hi : Int), vs = [x, .int lo, .int hi] ∧ Scal x ∧ Q (.bl (withinV x lo hi)) H
theorem ok_is_within {f : Addr} {fd : FuncData} (F : Fun K "is_within" "is_within" s_is_within f fd) (m_isinstance : mg "isinstance" = none) (m_int : mg "int" = none) (m_bool : mg "bool" = none) : FnOk P w K mg base CX0 1 f fd ["thing", "low", "high"] spWithin := by
  refine F.ok sc_is_within (fun vs H Q E h => ?_) (fun cdv A outer s H vs Q E hr h => ?_)
  · obtain ⟨x, lo, hi, rfl, _⟩ := h
    rfl
  · obtain ⟨x, lo, hi, rfl, hx, q⟩ := h
    refine ⟨_, (pss_one (ps_ret (pe_and (pe_callB call_isi (by rfl) m_isinstance bt_isinstance (pa_cons (pv 0) (pa_cons (pe_bltn (v := .ty "int") (by rfl) m_int bt_int rfl) pa_nil))) (pe_and (pe_not (pe_callB call_isi (by rfl) m_isinstance bt_isinstance (pa_cons (pv 0) (pa_cons (pe_bltn (v := .ty "bool") (by rfl) m_bool bt_bool rfl) pa_nil)))) (pe_one (pe_chain op_le op_le (pv 1) (pv 0) (pv 2))))))), ?_⟩
    rcases hx with ⟨z, rfl⟩ | ⟨z, rfl, _⟩
    · refine ⟨_, rfl, _, _, _, _, true, rfl, .ty "int", tyI z, kit_ty (by decide +kernel), _, rfl, ifT rfl ?_⟩
      refine ⟨_, rfl, _, _, _, _, false, rfl, .ty "bool", tyI z, kit_ty (by decide +kernel), _, rfl, _, rfl, ifT rfl ?_⟩
      refine ⟨_, rfl, _, rfl, _, _, rfl, rfl, _, rfl, ifD (fun c => ?_) (fun c => ?_)⟩
      · refine ⟨_, rfl, _, _, rfl, rfl, ?_⟩
        have e : withinV (.int z) lo hi = decide (z ≤ hi) := by
          show (decide (lo ≤ z) && decide (z ≤ hi)) = _
          rw [decide_eq_true c, Bool.true_and]
        rw [e] at q
        exact q
      · have e : withinV (.int z) lo hi = false := by
          show (decide (lo ≤ z) && decide (z ≤ hi)) = _
          rw [decide_eq_false c, Bool.false_and]
        rw [e] at q
        exact q
    · refine ⟨_, rfl, _, _, _, _, false, rfl, .ty "int", tyS z, kit_ty (by decide +kernel), _, rfl, ifF rfl q⟩
abbrev s_need_tick : Stmt := topS 7
theorem sc_need_tick : FnScope ["tick"] ["tick"] (defScope s_need_tick) := ⟨rfl, rfl, rfl, by decide +kernel, rfl, by decide +kernel, by decide +kernel⟩
def spNeedTick (K : PySem.W.Frag) (mg : Str → Option Value) : Sp := fun vs H Q E => ∃ (t : Int), vs = [.int t] ∧ t.natAbs < 10 ^ 40 ∧
  (0 ≤ t → t ≤ 999999 → Q .non H) ∧ (¬ (0 ≤ t ∧ t ≤ 999999) → ∀ cls d H', Raised K mg "badtick" true H cls d H' → E cls d H')
theorem ok_need_tick {f : Addr} {fd : FuncData} (F : Fun K "need_tick" "need_tick" s_need_tick f fd) (T_BadTick : ErrK P w K mg base 1 "BadTick" "badtick" true) (D_is_within : Def P w K mg base "is_within" 1 spWithin) (c_MOST_TICK : ∃ u, mg "MOST_TICK" = some u ∧ L2.RelV (.int 999999) u) : FnOk P w K mg base (L2.CX P w) 3 f fd ["tick"] (spNeedTick K mg) := by
  refine F.okX sc_need_tick (fun vs H Q E h => ?_) (fun cdv A outer s H vs Q E hr h => ?_)
  · obtain ⟨t, rfl, _⟩ := h
    rfl
  · obtain ⟨t, rfl, hb, q, qe⟩ := h
    refine ⟨_, (pss_one (ps_if (pt_not (pt_val (pe_d D_is_within (hr.mono (by decide)) rfl (pa_cons (pv 0) (pa_cons pe_int (pa_cons (C8.pe_gc rfl c_MOST_TICK) pa_nil)))))) (pss_one (ps_raiseK rfl T_BadTick (hr.mono (by decide)) (takes_of rfl rfl rfl rfl) rfl (pa_cons (pe_joined (.cons (pe_fmt (pv 0)) (.cons pe_str .nil))) pa_nil))) pss_nil)), ?_⟩
    refine ⟨_, rfl, _, _, _, rfl, .inl ⟨_, rfl⟩, _, rfl, ?_⟩
    have e : withinV (.int t) 0 999999 = (decide (0 ≤ t) && decide (t ≤ 999999)) := rfl
    rw [e]
    by_cases c1 : 0 ≤ t ∧ t ≤ 999999
    · rw [decide_eq_true c1.1, decide_eq_true c1.2]
      exact ifF rfl (q c1.1 c1.2)
    · have e2 : (decide (0 ≤ t) && decide (t ≤ 999999)) = false := by
        rw [← Bool.decide_and]
        exact decide_eq_false c1
      rw [e2]
      refine ifT rfl ?_
      refine ⟨_, rfl, .inr ⟨_, rfl, log_small hb, _, rfl, mem_sz (Nat.le_trans (txt_sz (by decide +kernel) hb) (by decide)), _, rfl, mem_sz ?_, ?_⟩⟩
      · rw [str_len]
        have := txt_sz (a := Str.empty) (by decide +kernel) hb
        show _ + 11 ≤ 1000000
        omega
      · exact ⟨_, rfl, fun cls d H' R => qe c1 cls d H' R⟩
abbrev s_moved_tick : Stmt := topS 9
theorem sc_moved_tick : FnScope ["tick", "by"] ["tick", "by"] (defScope s_moved_tick) := ⟨rfl, rfl, rfl, by decide +kernel, rfl, by decide +kernel, by decide +kernel⟩
def spMovedTick (K : PySem.W.Frag) (mg : Str → Option Value) : Sp := fun vs H Q E => ∃ (t b : Int), vs = [.int t, .int b] ∧ (t + b).natAbs < 10 ^ 40 ∧
  (0 ≤ t + b → t + b ≤ 999999 → Q (.int (t + b)) H) ∧ (¬ (0 ≤ t + b ∧ t + b ≤ 999999) → ∀ cls d H', Raised K mg "badtick" true H cls d H' → E cls d H')
theorem ok_moved_tick {f : Addr} {fd : FuncData} (F : Fun K "moved_tick" "moved_tick" s_moved_tick f fd) (D_need_tick : DefX P w K mg base "need_tick" 3 (spNeedTick K mg)) : FnOk P w K mg base (L2.CX P w) 4 f fd ["tick", "by"] (spMovedTick K mg) := by
  refine F.okX sc_moved_tick (fun vs H Q E h => ?_) (fun cdv A outer s H vs Q E hr h => ?_)
  · obtain ⟨t, b, rfl, _⟩ := h
    rfl
  · obtain ⟨t, b, rfl, hb, q, qe⟩ := h
    refine ⟨_, (pss_cons (ps_expr (pe_dx D_need_tick (hr.mono (by decide)) rfl (takes_of rfl rfl rfl rfl) (pa_cons (pe_op op_add (pv 0) (pv 1)) pa_nil)))
      (pss_one (ps_ret (pe_op op_add (pv 0) (pv 1))))), ?_⟩
    exact ⟨_, rfl, _, rfl, _, _, rfl, rfl, _, rfl, hb, fun c1 c2 => ⟨_, rfl, _, rfl, _, _, rfl, rfl, q c1 c2⟩, fun c cls d H' R => qe c cls d H' R⟩
end
end Rt

namespace Rt
open PySem PySem.Spec PyProof.Rows L2 RZ TL
section
variable {P : Program} {w : World} {K : PySem.W.Frag} {mg : Str → Option Value} {base : Heap}
abbrev s_later : Stmt := topS 8
theorem sc_later : FnScope ["track", "by", "event"] ["track", "by"] (defScope s_later) := ⟨rfl, rfl, rfl, by decide +kernel, rfl, by decide +kernel, by decide +kernel⟩
/-- an event, so many ticks later -/
def mvT (b : Int) (xs : List V) : List V := .int (tickOf xs + b) :: xs.drop 1
def spLater (K : PySem.W.Frag) (mg : Str → Option Value) : Sp := fun vs H Q E => ∃ (r : Addr) (b : Int) (ps : List Addr) (evs : List (List V)) (H0 : Hp), vs = [.ref r, .int b] ∧ Ex H0 H ∧ H0 r = some (.lst (ps.map V.ref)) ∧ Evs H0 ps evs ∧ evs.length ≤ 1000 ∧
  (∀ xs ∈ evs, ∃ t ys, xs = .int t :: ys ∧ 0 ≤ t ∧ t ≤ 999999 ∧ ys.length ≤ 100) ∧ b.natAbs < 10 ^ 35 ∧
  (∀ (i : Nat) (Hb : Hp), i < evs.length → ¬ (0 ≤ tickOf (evs.getD i []) + b ∧ tickOf (evs.getD i []) + b ≤ 999999) → Go (fun _ => False) H0 H H0 Hb → ∀ cls d H', Raised K mg "badtick" true Hb cls d H' → E cls d H') ∧
  ((∀ xs ∈ evs, 0 ≤ tickOf xs + b ∧ tickOf xs + b ≤ 999999) → ∀ (p : Addr) (qs : List Addr) (G H' : Hp), Go (fun _ => False) H0 H G H' → H p = none → G p = none → H' p = some (.lst (qs.map V.ref)) → Evs G qs (evs.map (mvT b)) → Q (.ref p) H')
theorem ok_later {f : Addr} {fd : FuncData} (F : Fun K "later" "later" s_later f fd) (D_moved_tick : DefX P w K mg base "moved_tick" 4 (spMovedTick K mg)) : FnOk P w K mg base (L2.CX P w) 5 f fd ["track", "by"] (spLater K mg) := by
  refine F.okX sc_later (fun vs H Q E h => ?_) (fun cdv A outer s B vs Q E hr h => ?_)
  · obtain ⟨r, b, ps, evs, H0, rfl, _⟩ := h
    rfl
  · obtain ⟨r, b, ps, evs, H0, rfl, e0, hr0, hev, hl, hok, hb, qe, q⟩ := h
    refine ⟨_, (pss_one (ps_ret (pe_lcx (own := [("event", 2)]) (g := gName 2) (tt := tYes) rfl sc_later.nd (pi_list (pv 0)) (blkOk_by (N := ["track", "by", "event"]) (sc := defScope s_later) (by decide +kernel)) rfl rfl (takes_of rfl rfl rfl rfl) (fun _ _ _ _ _ => pg_name (i := 2) sc_later.nd rfl (Or.inl rfl)) (fun _ _ _ _ _ => pts_nil) (fun _ _ _ _ _ _ => (pe_op (r := rCatA K) op_catA (pe_tup (pa_cons (pe_dxb D_moved_tick (hr.mono (by decide)) rfl (pa_cons (pe_ix (r := rIxT K) ix_tup (pv 2) pe_int (fun _ _ => rfl)) (pa_cons (pv 1) pa_nil))) pa_nil)) (pe_slice (r := rSlT K) sl_tup (pv 2) (po_some pe_int) po_none)))))), ?_⟩
    have lp : (ps.map V.ref).length = evs.length := by rw [List.length_map, hev.1]
    have g0 := Go.refl (m := fun _ => False) e0
    refine ⟨_, rfl, r, rfl, ⟨_, SqL.of (e0 _ _ hr0)⟩, fun D hD => lc_list (xs := ps.map V.ref) (fun i H' => ∃ (qs : List Addr) (G : Hp), H' D = some (.lst (qs.map V.ref)) ∧ Go (fun _ => False) H0 B G H' ∧ G D = none ∧ Evs G qs ((evs.take i).map (mvT b)) ∧ ∀ xs ∈ evs.take i, 0 ≤ tickOf xs + b ∧ tickOf xs + b ≤ 999999)
      ⟨[], H0, upd_same, g0.lay _ hD, e0.free hD, Evs.nil _, fun xs h => nomatch h⟩ (fun i H' _ ⟨_, G, _, g, _⟩ => SqL.of (g.inn _ _ (g.up _ _ hr0))) (fun i x H' hx hp => ?_) (fun H' hp => ?_)⟩
    · obtain ⟨qs, G, h1, g, nG, hv, hin⟩ := hp
      have hil : i < evs.length := by
        have := (List.getElem?_eq_some_iff.mp hx).1
        omega
      obtain ⟨p, xs, hp, hxs, hpx⟩ := hev.at_ hil
      obtain rfl : x = V.ref p := by
        rw [map_ref hp] at hx
        exact (Option.some.inj hx).symm
      obtain ⟨t, ys, rfl, t0, t1, yl⟩ := hok xs (List.mem_of_getElem? hxs)
      have gd := getD_of hxs
      have tk : tickOf (V.int t :: ys) = t := rfl
      have hb2 : (t + b).natAbs < 10 ^ 40 := by
        have b1 : (10 : Nat) ^ 35 = 100000000000000000000000000000000000 := by decide
        have b2 : (10 : Nat) ^ 40 = 10000000000000000000000000000000000000000 := by decide
        omega
      have hpS : SqT K H' p (.int t :: ys) := SqT.of (g.inn _ _ (g.up _ _ hpx))
      refine ⟨rfl, ?_⟩
      refine ⟨_, rfl, p, _, _, _, rfl, rfl, hpS, at_of (j := 0) rfl rfl, _, rfl, t, b, rfl, hb2, fun c1 c2 => ?_, fun c cls d H2 R => qe i H' hil (by rw [gd, tk]; exact c) ⟨Ex.refl _, g.up.trans g.inn, (fun _ _ h => h), g.keep, g.there⟩ cls d H2 R⟩
      refine ⟨(by show 1 ≤ sizeLine; decide), fun w hw => ?_⟩
      have g1 := g.put (.tup [.int (t + b)]) hw
      have nDw : D ≠ w := ne_of_none h1 hw
      have hww : ∀ G : Hp, upd G w (.tup [.int (t + b)]) w = some (.tup [.int (t + b)]) := fun G => upd_same
      refine ⟨_, rfl, _, rfl, p, _, rfl, SqT.of (g1.inn _ _ (g1.up _ _ hpx)), (by
        rw [sI_one _ _ (by show 0 < ys.length + 1; omega)]
        exact fun z => absurd z.1 (by decide)), fun k hk => ?_⟩
      rw [show cutV (V.int t :: ys) (some 1) none = ys from cutV_drop (V.int t :: ys) 1 (by show 1 ≤ ys.length + 1; omega)]
      have g2 := g1.put (.tup ys) hk
      have nDk : D ≠ k := ne_of_none ((upd_ne nDw).trans h1) hk
      have hw2 := upPut (o := .tup ys) (g1.inn.free hk) (hww G)
      -- the list grows by c
      have fin : ∀ (c : Addr) (G' H2 : Hp), Go (fun _ => False) H0 B G' H2 → Ex G G' → G' D = none → H2 D = some (.lst (qs.map V.ref)) → G' c = some (.tup (mvT b (V.int t :: ys))) →
          ∃ acc, H2 D = some (.lst acc) ∧ acc.length < sizeLine ∧ ∃ (qs : List Addr) (G : Hp), upd H2 D (.lst (acc ++ [.ref c])) D = some (.lst (qs.map V.ref)) ∧ Go (fun _ => False) H0 B G (upd H2 D (.lst (acc ++ [.ref c]))) ∧ G D = none ∧ Evs G qs ((evs.take (i + 1)).map (mvT b)) ∧ ∀ xs ∈ evs.take (i + 1), 0 ≤ tickOf xs + b ∧ tickOf xs + b ≤ 999999 := fun c G' H2 g' x' n' hD2 hc => by
        refine ⟨_, hD2, mem_lt (by rw [List.length_map, hv.1, List.length_map, List.length_take]; omega), qs ++ [c], G', ?_, g'.turn _ (g0.fresh hD) n', n', ?_, fun xs hx => ?_⟩
        · rw [upd_same, List.map_append]
          rfl
        · rw [take_snoc hxs, List.map_append]
          exact (hv.up x').snoc hc
        · rw [take_snoc hxs] at hx
          rcases List.mem_append.mp hx with h | h
          · exact hin xs h
          · rw [List.mem_singleton.mp h]
            exact ⟨c1, c2⟩
      have n2 : upd (upd G w (.tup [.int (t + b)])) k (.tup ys) D = none := by rw [upd_ne nDk, upd_ne nDw, nG]
      have hD2 := (upd_ne (H := upd H' w (.tup [.int (t + b)])) (o := .tup ys) nDk).trans ((upd_ne nDw).trans h1)
      have x2 : Ex G (upd (upd G w (.tup [.int (t + b)])) k (.tup ys)) := (Ex.new (g.inn.free hw)).trans (Ex.new (g1.inn.free hk))
      refine ⟨w, k, _, _, rfl, rfl, SqT.of (g2.inn _ _ hw2), SqT.of upd_same, mem_sz (by show 1 + _ ≤ _; omega), (fun e => nomatch e), fun _ e => ?_, fun _ _ c hc => ?_⟩
      · refine fin w _ _ g2 x2 n2 hD2 ?_
        rw [hw2, e]
        rfl
      · have nDc : D ≠ c := ne_of_none hD2 hc
        exact fin c _ _ (g2.put _ hc) (x2.trans (Ex.new (g2.inn.free hc))) ((upd_ne nDc).trans n2) ((upd_ne nDc).trans hD2) upd_same
    · obtain ⟨qs, G, h1, g, nG, hv, hin⟩ := hp
      rw [lp, List.take_length] at hv hin
      exact q hin D qs G H' g hD nG h1 hv
abbrev s_channel : Stmt := topS 14
theorem sc_channel : FnScope ["_law_draw"] ["_law_draw"] (defScope s_channel) := ⟨rfl, rfl, rfl, by decide +kernel, rfl, by decide +kernel, by decide +kernel⟩
theorem ok_channel {f : Addr} {fd : FuncData} (F : Fun K "_law_channel" "_law_channel" s_channel f fd) (D__law_pick : Def P w K mg base "_law_pick" 1 spPick) : FnOk P w K mg base CX0 2 f fd ["_law_draw"] (spInts 0 15) := by
  refine F.ok sc_channel (fun vs H Q E h => ?_) (fun cdv A outer s H vs Q E hr h => ?_)
  · obtain ⟨d, H0, rfl, _⟩ := h
    rfl
  · obtain ⟨d, H0, rfl, e0, hD, q⟩ := h
    refine ⟨_, (pss_one (ps_ret (pe_ix ix_tup (pe_tup (pa_cons (pe_d D__law_pick (hr.mono (by decide)) rfl (pa_cons (pv 0) (pa_cons pe_int pa_nil))) (pa_cons (pe_d D__law_pick (hr.mono (by decide)) rfl (pa_cons (pv 0) (pa_cons pe_int pa_nil))) pa_nil))) (pe_d D__law_pick (hr.mono (by decide)) rfl (pa_cons (pv 0) (pa_cons pe_int pa_nil))) (fun _ _ => rfl)))), ?_⟩
    have S := Sd.here e0 hD
    refine ⟨_, rfl, d, 3, _, rfl, by decide, by decide, S.ex, S.dr, fun x H x0 x1 g hD => ?_⟩
    have S := S.call g hD
    refine ⟨_, rfl, d, 16, _, rfl, by decide, by decide, S.ex, S.dr, fun y H y0 y1 g hD => ?_⟩
    have S := S.call g hD
    refine ⟨(by show 2 ≤ sizeLine; decide), fun t ht => ?_⟩
    have S := S.put (.tup [.int x, .int y]) ht
    refine ⟨_, rfl, d, 2, _, rfl, by decide, by decide, S.ex, S.dr, fun u H u0 u1 g hD => ?_⟩
    have S := S.call g hD
    have htt := g.up t _ upd_same
    obtain ⟨r, hr', r0, r1⟩ := get_int [.int x, .int y] 0 15 (fun v hv => by
      simp only [List.mem_cons, List.mem_nil_iff, or_false] at hv
      rcases hv with rfl | rfl
      · exact ⟨x, rfl, x0, by omega⟩
      · exact ⟨y, rfl, y0, by omega⟩) u u0 u1
    exact ⟨t, _, _, _, rfl, rfl, SqT.of (S.ex _ _ htt), at_of (j := u.toNat) (by omega) hr', q r _ _ r0 r1 S.go S.dr⟩
abbrev s_key : Stmt := topS 15
theorem sc_key : FnScope ["_law_draw"] ["_law_draw"] (defScope s_key) := ⟨rfl, rfl, rfl, by decide +kernel, rfl, by decide +kernel, by decide +kernel⟩
theorem ok_key {f : Addr} {fd : FuncData} (F : Fun K "_law_key" "_law_key" s_key f fd) (D__law_pick : Def P w K mg base "_law_pick" 1 spPick) : FnOk P w K mg base CX0 2 f fd ["_law_draw"] (spInts 0 127) := by
  refine F.ok sc_key (fun vs H Q E h => ?_) (fun cdv A outer s H vs Q E hr h => ?_)
  · obtain ⟨d, H0, rfl, _⟩ := h
    rfl
  · obtain ⟨d, H0, rfl, e0, hD, q⟩ := h
    refine ⟨_, (pss_one (ps_ret (pe_ix ix_tup (pe_tup (pa_cons (pe_op op_add pe_int (pe_d D__law_pick (hr.mono (by decide)) rfl (pa_cons (pv 0) (pa_cons pe_int pa_nil)))) (pa_cons (pe_d D__law_pick (hr.mono (by decide)) rfl (pa_cons (pv 0) (pa_cons pe_int pa_nil))) pa_nil))) (pe_d D__law_pick (hr.mono (by decide)) rfl (pa_cons (pv 0) (pa_cons pe_int pa_nil))) (fun _ _ => rfl)))), ?_⟩
    have S := Sd.here e0 hD
    refine ⟨_, rfl, d, 3, _, rfl, by decide, by decide, S.ex, S.dr, fun x H x0 x1 g hD => ?_⟩
    have S := S.call g hD
    refine ⟨_, _, rfl, rfl, _, rfl, d, 128, _, rfl, by decide, by decide, S.ex, S.dr, fun y H y0 y1 g hD => ?_⟩
    have S := S.call g hD
    refine ⟨(by show 2 ≤ sizeLine; decide), fun t ht => ?_⟩
    have S := S.put (.tup [.int (60 + x), .int y]) ht
    refine ⟨_, rfl, d, 2, _, rfl, by decide, by decide, S.ex, S.dr, fun u H u0 u1 g hD => ?_⟩
    have S := S.call g hD
    have htt := g.up t _ upd_same
    obtain ⟨r, hr', r0, r1⟩ := get_int [.int (60 + x), .int y] 0 127 (fun v hv => by
      simp only [List.mem_cons, List.mem_nil_iff, or_false] at hv
      rcases hv with rfl | rfl
      · exact ⟨60 + x, rfl, by omega, by omega⟩
      · exact ⟨y, rfl, y0, by omega⟩) u u0 u1
    exact ⟨t, _, _, _, rfl, rfl, SqT.of (S.ex _ _ htt), at_of (j := u.toNat) (by omega) hr', q r _ _ r0 r1 S.go S.dr⟩
abbrev s_word : Stmt := topS 16
theorem sc_word : FnScope ["_law_draw", "_law_most", "_law_signs", "_law_k"] ["_law_draw", "_law_most"] (defScope s_word) := ⟨rfl, rfl, rfl, by decide +kernel, rfl, by decide +kernel, by decide +kernel⟩
/-- a text drawn of the signs -/
def spWord : Sp := fun vs H Q _ => ∃ (d : Addr) (m : Nat) (H0 : Hp), vs = [.ref d, .int (m : Int)] ∧ m ≤ 100 ∧ Ex H0 H ∧ Dr H0 H d ∧
  ∀ (s : Str) (G0 H' : Hp), s.length ≤ m → (∀ c ∈ s.cps.toList, c ∈ signsS.cps.toList) → Go (· = d) H0 H G0 H' → Dr G0 H' d → Q (.str s) H'
theorem ok_word {f : Addr} {fd : FuncData} (F : Fun K "_law_word" "_law_word" s_word f fd) (D__law_pick : Def P w K mg base "_law_pick" 1 spPick) (m_range : mg "range" = none) : FnOk P w K mg base CX0 2 f fd ["_law_draw", "_law_most"] spWord := by
  refine F.ok sc_word (fun vs H Q E h => ?_) (fun cdv A outer s B vs Q E hr h => ?_)
  · obtain ⟨d, m, H0, rfl, _⟩ := h
    rfl
  · obtain ⟨d, m, H0, rfl, hm, e0, hD, q⟩ := h
    refine ⟨_, (pss_cons (ps_set (i := 2) sc_word.nd rfl (Or.inr rfl) pe_str)
      (pss_cons (ps_if (pt_cmpR op_eq (pe_d D__law_pick (hr.mono (by decide)) rfl (pa_cons (pv 0) (pa_cons pe_int pa_nil))) pe_int (nomark _)) (pss_one (ps_ret (pe_op op_repS (pe_ix ix_str (pv 2) (pe_d D__law_pick (hr.mono (by decide)) rfl (pa_cons (pv 0) (pa_cons pe_int pa_nil))) (fun _ _ => rfl)) (pe_d D__law_pick (hr.mono (by decide)) rfl (pa_cons (pv 0) (pa_cons (pe_op op_add (pv 1) pe_int) pa_nil)))))) pss_nil)
      (pss_one (ps_ret (pe_join pe_str (pe_lc (own := [("_law_k", 3)]) (g := gName 3) (tt := tYes) rfl sc_word.nd (pi_range1 rfl m_range (pa_cons (pe_d D__law_pick (hr.mono (by decide)) rfl (pa_cons (pv 0) (pa_cons (pe_op op_add (pv 1) pe_int) pa_nil))) pa_nil)) (blkOk_by (N := ["_law_draw", "_law_most", "_law_signs", "_law_k"]) (sc := defScope s_word) (by decide +kernel)) (fun _ _ _ _ _ => pg_name (i := 3) sc_word.nd rfl (Or.inl rfl)) (fun _ _ _ _ _ => pts_nil) (fun _ _ _ _ _ => (pe_ix ix_str (pv 2) (pe_d D__law_pick (hr.mono (by decide)) rfl (pa_cons (pv 0) (pa_cons pe_int pa_nil))) (fun _ _ => rfl))))))))), ?_⟩
    have S := Sd.here e0 hD
    have sgn : ∀ r : Int, 0 ≤ r → r < 37 → ∃ c, signsS.cps.toList[r.toNat]? = some c := fun r r0 r1 => ⟨_, List.getElem?_eq_getElem (by show r.toNat < 37; omega)⟩
    refine ⟨_, rfl, d, 2, _, rfl, by decide, by decide, S.ex, S.dr, fun x H x0 x1 g hD => ?_⟩
    have S := S.call g hD
    refine ⟨rfl, _, rfl, ifD (fun c => ?_) (fun c => ?_)⟩
    · refine ⟨_, rfl, _, rfl, d, 37, _, rfl, by decide, by decide, S.ex, S.dr, fun y H y0 y1 g hD => ?_⟩
      have S := S.call g hD
      obtain ⟨c, hc⟩ := sgn y y0 y1
      refine ⟨signsS, y, c, rfl, rfl, mem_sz (by show 37 ≤ _; decide), at_n (j := y.toNat) (by omega) hc, ?_⟩
      refine ⟨_, rfl, _, rfl, _, _, rfl, rfl, d, _, _, rfl, by omega, by omega, S.ex, S.dr, fun n H n0 n1 g hD => ?_⟩
      have S := S.call g hD
      obtain ⟨n, rfl⟩ : ∃ k : Nat, n = (k : Int) := ⟨n.toNat, by omega⟩
      refine ⟨_, n, rfl, rfl, (by show 1 ≤ 1000; decide), by omega, fun w hw hc2 => q w _ _ ?_ (fun c' h => ?_) S.go S.dr⟩
      · have : w.length = 1 * n := hw
        omega
      · have : c' ∈ [c] := hc2 c' h
        rw [List.mem_singleton.mp this]
        exact List.mem_of_getElem? hc
    · refine ⟨⟨_, rfl⟩, _, rfl, _, rfl, _, _, rfl, rfl, d, _, _, rfl, by omega, by omega, S.ex, S.dr, fun n H n0 n1 g hD => ?_⟩
      have S := S.call g hD
      obtain ⟨n, rfl⟩ : ∃ k : Nat, n = (k : Int) := ⟨n.toNat, by omega⟩
      refine ⟨_, rfl, by omega, by omega, fun D hDn => ?_⟩
      have ndD := S.dr.ne hDn
      have bD := S.go.fresh hDn
      refine lc_range (lo := 0) (n := n) (fun i H' => ∃ (ys : List Str) (G0 : Hp), H' D = some (.lst (ys.map V.str)) ∧ ys.length = i ∧ (∀ y ∈ ys, ∃ c ∈ signsS.cps.toList, y = ⟨#[c]⟩) ∧ Sd d H0 B G0 H' ∧ G0 D = none) ⟨[], _, upd_same, rfl, (fun y h => nomatch h), S.lay _ hDn, S.ex.free hDn⟩ ?_ ?_
      · rintro i H' hi ⟨ys, G0, h1, h2, h3, S1, h4⟩
        refine ⟨rfl, ?_⟩
        refine ⟨_, rfl, _, rfl, d, 37, _, rfl, by decide, by decide, S1.ex, S1.dr, fun r H2 r0 r1 g hD2 => ?_⟩
        have S2 := S1.call g hD2
        obtain ⟨c, hc⟩ := sgn r r0 r1
        have h5 := g.keep D _ h1 (fun z => ndD z.symm)
        refine ⟨signsS, r, c, rfl, rfl, mem_sz (by show 37 ≤ _; decide), at_n (j := r.toNat) (by omega) hc, _, h5, mem_lt (by rw [List.length_map]; omega), ys ++ [⟨#[c]⟩], _, ?_, by rw [List.length_append, h2]; rfl, fun y hy => ?_, S2.turn _ bD ?_ ndD, ?_⟩
        · rw [upd_same, List.map_append]
          rfl
        · rcases List.mem_append.mp hy with h | h
          · exact h3 y h
          · exact ⟨c, List.mem_of_getElem? hc, List.mem_singleton.mp h⟩
        · exact g.new D (by rw [h1]; simp) h4
        · exact g.new D (by rw [h1]; simp) h4
      · rintro H' ⟨ys, G0, h1, h2, h3, S1, h4⟩
        obtain ⟨j1, j2⟩ := join_signs ys _ h3
        refine ⟨_, D, ys, rfl, rfl, .inl (SqL.of h1), ?_, q _ _ _ (by omega) j2 S1.go S1.dr⟩
        rw [sum_signs ys _ h3]
        show ys.length + ys.length * 0 ≤ 16777216
        omega
abbrev s_thing : Stmt := topS 17
theorem sc_thing : FnScope ["_law_draw", "_law_kind", "_law_channel_here"] ["_law_draw"] (defScope s_thing) := ⟨rfl, rfl, rfl, by decide +kernel, rfl, by decide +kernel, by decide +kernel⟩
theorem thing_on {c k f : Int} (hc : 0 ≤ c ∧ c ≤ 15) (hk : 0 ≤ k ∧ k ≤ 127) (hf : 1 ≤ f ∧ f ≤ 127) : thingOk [.str "on", .int c, .int k, .int f] = true := by
  rw [thing_word (by decide)]
  show (withinV (.int c) 0 15 && (withinV (.int k) 0 127 && (withinV (.int f) 1 127 && true))) = true
  rw [win hc, win hk, win hf]
  rfl
theorem thing_off {c k f : Int} (hc : 0 ≤ c ∧ c ≤ 15) (hk : 0 ≤ k ∧ k ≤ 127) (hf : 0 ≤ f ∧ f ≤ 127) : thingOk [.str "off", .int c, .int k, .int f] = true := by
  rw [thing_word (by decide)]
  show (withinV (.int c) 0 15 && (withinV (.int k) 0 127 && (withinV (.int f) 0 127 && true))) = true
  rw [win hc, win hk, win hf]
  rfl
theorem thing_knob {c k f : Int} (hc : 0 ≤ c ∧ c ≤ 15) (hk : 0 ≤ k ∧ k ≤ 127) (hf : 0 ≤ f ∧ f ≤ 127) : thingOk [.str "knob", .int c, .int k, .int f] = true := by
  rw [thing_word (by decide)]
  show (withinV (.int c) 0 15 && (withinV (.int k) 0 127 && (withinV (.int f) 0 127 && true))) = true
  rw [win hc, win hk, win hf]
  rfl
theorem thing_voice {c k : Int} (hc : 0 ≤ c ∧ c ≤ 15) (hk : 0 ≤ k ∧ k ≤ 127) : thingOk [.str "voice", .int c, .int k] = true := by
  rw [thing_word (by decide)]
  show (withinV (.int c) 0 15 && (withinV (.int k) 0 127 && true)) = true
  rw [win hc, win hk]
  rfl
theorem thing_text {s : Str} (h : s.length ≤ 12) (hc : ∀ c ∈ s.cps.toList, c ∈ signsS.cps.toList) : thingOk [.str "mark", .str s] = true := by
  rw [thing_mark]
  show (decide (s.length ≤ 12) && s.cps.toList.all _) = true
  rw [decide_eq_true h, Bool.true_and]
  exact List.all_eq_true.mpr fun c h => decide_eq_true (hc c h)
/-- a good thing drawn: a new tuple -/
def spThing : Sp := fun vs H Q _ => ∃ (d : Addr) (H0 : Hp), vs = [.ref d] ∧ Ex H0 H ∧ Dr H0 H d ∧
  ∀ (t : Addr) (xs : List V) (G0 H' : Hp), thingOk xs = true → (∀ x ∈ xs, Scal x) → xs.length ≤ 4 → Go (· = d) H0 H G0 H' → Dr G0 H' d → H t = none → G0 t = some (.tup xs) → Q (.ref t) H'
theorem ok_thing {f : Addr} {fd : FuncData} (F : Fun K "_law_thing" "_law_thing" s_thing f fd) (D__law_pick : Def P w K mg base "_law_pick" 1 spPick) (D__law_channel : Def P w K mg base "_law_channel" 2 (spInts 0 15)) (D__law_key : Def P w K mg base "_law_key" 2 (spInts 0 127))
    (D__law_word : Def P w K mg base "_law_word" 2 spWord) : FnOk P w K mg base CX0 3 f fd ["_law_draw"] spThing := by
  refine F.ok sc_thing (fun vs H Q E h => ?_) (fun cdv A outer s B vs Q E hr h => ?_)
  · obtain ⟨d, H0, rfl, _⟩ := h
    rfl
  · obtain ⟨d, H0, rfl, e0, hD, q⟩ := h
    refine ⟨_, (pss_cons (ps_set (i := 1) sc_thing.nd rfl (Or.inl rfl) (pe_d D__law_pick (hr.mono (by decide)) rfl (pa_cons (pv 0) (pa_cons pe_int pa_nil))))
      (pss_cons (ps_set (i := 2) sc_thing.nd rfl (Or.inl rfl) (pe_d D__law_channel (hr.mono (by decide)) rfl (pa_cons (pv 0) pa_nil)))
      (pss_cons (ps_if (pt_cmpR op_lt (pv 1) pe_int (nomark _)) (pss_one (ps_ret (pe_tup (pa_cons pe_str (pa_cons (pv 2) (pa_cons (pe_d D__law_key (hr.mono (by decide)) rfl (pa_cons (pv 0) pa_nil)) (pa_cons (pe_op op_add pe_int (pe_d D__law_pick (hr.mono (by decide)) rfl (pa_cons (pv 0) (pa_cons pe_int pa_nil)))) pa_nil))))))) pss_nil)
      (pss_cons (ps_if (pt_cmpR op_lt (pv 1) pe_int (nomark _)) (pss_one (ps_ret (pe_tup (pa_cons pe_str (pa_cons (pv 2) (pa_cons (pe_d D__law_key (hr.mono (by decide)) rfl (pa_cons (pv 0) pa_nil)) (pa_cons (pe_ix ix_tup (pe_tup (pa_cons pe_int (pa_cons (pe_d D__law_pick (hr.mono (by decide)) rfl (pa_cons (pv 0) (pa_cons pe_int pa_nil))) pa_nil))) (pe_d D__law_pick (hr.mono (by decide)) rfl (pa_cons (pv 0) (pa_cons pe_int pa_nil))) (fun _ _ => rfl)) pa_nil))))))) pss_nil)
      (pss_cons (ps_if (pt_cmpR op_lt (pv 1) pe_int (nomark _)) (pss_one (ps_ret (pe_tup (pa_cons pe_str (pa_cons (pv 2) (pa_cons (pe_ix ix_tup (pe_tup (pa_cons (pe_d D__law_pick (hr.mono (by decide)) rfl (pa_cons (pv 0) (pa_cons pe_int pa_nil))) (pa_cons (pe_d D__law_pick (hr.mono (by decide)) rfl (pa_cons (pv 0) (pa_cons pe_int pa_nil))) pa_nil))) (pe_d D__law_pick (hr.mono (by decide)) rfl (pa_cons (pv 0) (pa_cons pe_int pa_nil))) (fun _ _ => rfl)) (pa_cons (pe_d D__law_pick (hr.mono (by decide)) rfl (pa_cons (pv 0) (pa_cons pe_int pa_nil))) pa_nil))))))) pss_nil)
      (pss_cons (ps_if (pt_cmpR op_eq (pv 1) pe_int (nomark _)) (pss_one (ps_ret (pe_tup (pa_cons pe_str (pa_cons (pv 2) (pa_cons (pe_d D__law_pick (hr.mono (by decide)) rfl (pa_cons (pv 0) (pa_cons pe_int pa_nil))) pa_nil)))))) pss_nil)
      (pss_one (ps_ret (pe_tup (pa_cons pe_str (pa_cons (pe_d D__law_word (hr.mono (by decide)) rfl (pa_cons (pv 0) (pa_cons pe_int pa_nil))) pa_nil))))))))))), ?_⟩
    have S := Sd.here e0 hD
    refine ⟨_, rfl, d, 12, _, rfl, by decide, by decide, S.ex, S.dr, fun k H k0 k1 g hD => ?_⟩
    have S := S.call g hD
    refine ⟨_, rfl, d, _, rfl, S.ex, S.dr, fun c G0 H c0 c1 g hD => ?_⟩
    have S := S.call g hD
    have fin : ∀ (G0 H : Hp) (xs : List V), Sd d H0 B G0 H → thingOk xs = true → (∀ x ∈ xs, Scal x) → xs.length ≤ 4 → ∀ t, H t = none → Q (.ref t) (upd H t (.tup xs)) := fun G0 H xs S h1 h2 h3 t ht =>
      q t xs _ _ h1 h2 h3 (S.put _ ht).go (S.put _ ht).dr (S.go.fresh ht) upd_same
    have sI : ∀ z : Int, Scal (.int z) := fun z => .inl ⟨z, rfl⟩
    have sS : ∀ s : Str, s.length ≤ 1000 → Scal (.str s) := fun s h => .inr ⟨s, rfl, h⟩
    refine ⟨_, rfl, _, _, rfl, rfl, _, rfl, ifD (fun h => ?_) (fun h => ?_)⟩
    · refine ⟨_, rfl, _, rfl, d, _, rfl, S.ex, S.dr, fun y G0 H y0 y1 g hD => ?_⟩
      have S := S.call g hD
      refine ⟨_, rfl, d, 127, _, rfl, by decide, by decide, S.ex, S.dr, fun z H z0 z1 g hD => ?_⟩
      have S := S.call g hD
      refine ⟨_, _, rfl, rfl, (by show 4 ≤ sizeLine; decide), fun t ht => ?_⟩
      exact fin _ _ _ S (thing_on ⟨c0, c1⟩ ⟨y0, y1⟩ ⟨by omega, by omega⟩) (by
        intro x hx
        simp only [List.mem_cons, List.mem_nil_iff, or_false] at hx
        rcases hx with rfl | rfl | rfl | rfl
        · exact sS _ (by decide)
        all_goals exact sI _) (by show 4 ≤ 4; decide) t ht
    refine ⟨_, rfl, _, _, rfl, rfl, _, rfl, ifD (fun h => ?_) (fun h => ?_)⟩
    · refine ⟨_, rfl, _, rfl, d, _, rfl, S.ex, S.dr, fun y G0 H y0 y1 g hD => ?_⟩
      have S := S.call g hD
      refine ⟨_, rfl, d, 128, _, rfl, by decide, by decide, S.ex, S.dr, fun z H z0 z1 g hD => ?_⟩
      have S := S.call g hD
      refine ⟨(by show 2 ≤ sizeLine; decide), fun t ht => ?_⟩
      have S := S.put (.tup [.int 64, .int z]) ht
      refine ⟨_, rfl, d, 2, _, rfl, by decide, by decide, S.ex, S.dr, fun u H u0 u1 g hD => ?_⟩
      have S := S.call g hD
      have htt := g.up t _ upd_same
      obtain ⟨r, hr', r0, r1⟩ := get_int [.int 64, .int z] 0 127 (fun v hv => by
        simp only [List.mem_cons, List.mem_nil_iff, or_false] at hv
        rcases hv with rfl | rfl
        · exact ⟨64, rfl, by decide, by decide⟩
        · exact ⟨z, rfl, z0, by omega⟩) u u0 u1
      refine ⟨t, _, _, _, rfl, rfl, SqT.of (S.ex _ _ htt), at_of (j := u.toNat) (by omega) hr', (by show 4 ≤ sizeLine; decide), fun t ht => ?_⟩
      exact fin _ _ _ S (thing_off ⟨c0, c1⟩ ⟨y0, y1⟩ ⟨r0, r1⟩) (by
        intro x hx
        simp only [List.mem_cons, List.mem_nil_iff, or_false] at hx
        rcases hx with rfl | rfl | rfl | rfl
        · exact sS _ (by decide)
        all_goals exact sI _) (by show 4 ≤ 4; decide) t ht
    refine ⟨_, rfl, _, _, rfl, rfl, _, rfl, ifD (fun h => ?_) (fun h => ?_)⟩
    · refine ⟨_, rfl, _, rfl, d, 3, _, rfl, by decide, by decide, S.ex, S.dr, fun y H y0 y1 g hD => ?_⟩
      have S := S.call g hD
      refine ⟨_, rfl, d, 128, _, rfl, by decide, by decide, S.ex, S.dr, fun z H z0 z1 g hD => ?_⟩
      have S := S.call g hD
      refine ⟨(by show 2 ≤ sizeLine; decide), fun t ht => ?_⟩
      have S := S.put (.tup [.int y, .int z]) ht
      refine ⟨_, rfl, d, 2, _, rfl, by decide, by decide, S.ex, S.dr, fun u H u0 u1 g hD => ?_⟩
      have S := S.call g hD
      have htt := g.up t _ upd_same
      obtain ⟨r, hr', r0, r1⟩ := get_int [.int y, .int z] 0 127 (fun v hv => by
        simp only [List.mem_cons, List.mem_nil_iff, or_false] at hv
        rcases hv with rfl | rfl
        · exact ⟨y, rfl, y0, by omega⟩
        · exact ⟨z, rfl, z0, by omega⟩) u u0 u1
      refine ⟨t, _, _, _, rfl, rfl, SqT.of (S.ex _ _ htt), at_of (j := u.toNat) (by omega) hr', _, rfl, d, 128, _, rfl, by decide, by decide, S.ex, S.dr, fun z2 H z20 z21 g hD => ?_⟩
      have S := S.call g hD
      refine ⟨(by show 4 ≤ sizeLine; decide), fun t ht => ?_⟩
      exact fin _ _ _ S (thing_knob ⟨c0, c1⟩ ⟨r0, r1⟩ ⟨z20, by omega⟩) (by
        intro x hx
        simp only [List.mem_cons, List.mem_nil_iff, or_false] at hx
        rcases hx with rfl | rfl | rfl | rfl
        · exact sS _ (by decide)
        all_goals exact sI _) (by show 4 ≤ 4; decide) t ht
    refine ⟨_, rfl, rfl, _, rfl, ifD (fun h => ?_) (fun h => ?_)⟩
    · refine ⟨_, rfl, _, rfl, d, 128, _, rfl, by decide, by decide, S.ex, S.dr, fun z H z0 z1 g hD => ?_⟩
      have S := S.call g hD
      refine ⟨(by show 3 ≤ sizeLine; decide), fun t ht => ?_⟩
      exact fin _ _ _ S (thing_voice ⟨c0, c1⟩ ⟨z0, by omega⟩) (by
        intro x hx
        simp only [List.mem_cons, List.mem_nil_iff, or_false] at hx
        rcases hx with rfl | rfl | rfl
        · exact sS _ (by decide)
        all_goals exact sI _) (by show 3 ≤ 4; decide) t ht
    · refine ⟨_, rfl, d, 12, _, rfl, by decide, S.ex, S.dr, fun s G0 H s1 s2 g hD => ?_⟩
      have S := S.call g hD
      refine ⟨(by show 2 ≤ sizeLine; decide), fun t ht => ?_⟩
      exact fin _ _ _ S (thing_text s1 s2) (by
        intro x hx
        simp only [List.mem_cons, List.mem_nil_iff, or_false] at hx
        rcases hx with rfl | rfl
        · exact sS _ (by decide)
        · exact sS _ (by omega)) (by show 2 ≤ 4; decide) t ht
abbrev s_gap_of : Stmt := topS 13
theorem sc_gap_of : FnScope ["_law_draw", "_law_wide"] ["_law_draw"] (defScope s_gap_of) := ⟨rfl, rfl, rfl, by decide +kernel, rfl, by decide +kernel, by decide +kernel⟩
theorem ok_gap_of {f : Addr} {fd : FuncData} (F : Fun K "_law_gap_of" "_law_gap_of" s_gap_of f fd) (D__law_pick : Def P w K mg base "_law_pick" 1 spPick) : FnOk P w K mg base CX0 2 f fd ["_law_draw"] (spInts 0 999999) := by
  refine F.ok sc_gap_of (fun vs H Q E h => ?_) (fun cdv A outer s H vs Q E hr h => ?_)
  · obtain ⟨d, H0, rfl, _⟩ := h
    rfl
  · obtain ⟨d, H0, rfl, e0, hD, q⟩ := h
    refine ⟨_, (pss_cons (ps_set (i := 1) sc_gap_of.nd rfl (Or.inl rfl) (pe_ix ix_tup (pe_tup (pa_cons pe_int (pa_cons pe_int (pa_cons pe_int (pa_cons pe_int (pa_cons pe_int (pa_cons pe_int (pa_cons pe_int pa_nil)))))))) (pe_d D__law_pick (hr.mono (by decide)) rfl (pa_cons (pv 0) (pa_cons pe_int pa_nil))) (fun _ _ => rfl)))
      (pss_one (ps_ret (pe_d D__law_pick (hr.mono (by decide)) rfl (pa_cons (pv 0) (pa_cons (pv 1) pa_nil)))))), ?_⟩
    have S := Sd.here e0 hD
    refine ⟨(by show 7 ≤ sizeLine; decide), fun t ht => ?_⟩
    have S := S.put (.tup [.int 1, .int 1, .int 3, .int 12, .int 200, .int 30000, .int 400000]) ht
    refine ⟨_, rfl, d, 7, _, rfl, by decide, by decide, S.ex, S.dr, fun u H u0 u1 g hD => ?_⟩
    have S := S.call g hD
    have htt := g.up t _ upd_same
    obtain ⟨r, hr', r0, r1⟩ := get_int [.int 1, .int 1, .int 3, .int 12, .int 200, .int 30000, .int 400000] 1 400000 (fun v hv => by
      simp only [List.mem_cons, List.mem_nil_iff, or_false] at hv
      rcases hv with rfl | rfl | rfl | rfl | rfl | rfl | rfl
      all_goals exact ⟨_, rfl, by decide, by decide⟩) u u0 u1
    refine ⟨t, _, _, _, rfl, rfl, SqT.of (S.ex _ _ htt), at_of (j := u.toNat) (by omega) hr', ?_⟩
    exact ⟨_, rfl, _, rfl, d, r, _, rfl, by omega, by omega, S.ex, S.dr, fun z H z0 z1 g hD => q z _ _ z0 (by omega) (S.call g hD).go (S.call g hD).dr⟩
end
end Rt

namespace Rt
open PySem PySem.Spec PyProof.Rows L2 RZ TL
section
variable {P : Program} {w : World} {K : PySem.W.Frag} {mg : Str → Option Value} {base : Heap}
abbrev s_track : Stmt := topS 18
theorem sc_track : FnScope ["_law_draw", "_law_most", "_law_found", "_law_tick", "_law_k"] ["_law_draw", "_law_most"] (defScope s_track) := ⟨rfl, rfl, rfl, by decide +kernel, rfl, by decide +kernel, by decide +kernel⟩
theorem ok_track {f : Addr} {fd : FuncData} (F : Fun K "_law_track" "_law_track" s_track f fd) (D__law_pick : Def P w K mg base "_law_pick" 1 spPick) (D__law_gap_of : Def P w K mg base "_law_gap_of" 2 (spInts 0 999999)) (D__law_thing : Def P w K mg base "_law_thing" 3 spThing) (m_range : mg "range" = none) (m_min : mg "min" = none) : FnOk P w K mg base CX0 4 f fd ["_law_draw", "_law_most"] spTrack := by
  refine F.ok sc_track (fun vs H Q E h => ?_) (fun cdv A outer s B vs Q E hr h => ?_)
  · obtain ⟨d, m, H0, rfl, _⟩ := h
    rfl
  · obtain ⟨d, m, H0, rfl, hm, e0, hD, q⟩ := h
    refine ⟨_, (pss_cons (ps_set (i := 2) sc_track.nd rfl (Or.inl rfl) (pe_lst pa_nil))
      (pss_cons (ps_set (i := 3) sc_track.nd rfl (Or.inl rfl) pe_int)
      (pss_cons (ps_for PassesOwn.never rfl (pi_range1 rfl m_range (pa_cons (pe_d D__law_pick (hr.mono (by decide)) rfl (pa_cons (pv 0) (pa_cons (pe_op op_add (pv 1) pe_int) pa_nil))) pa_nil)) (pg_name (i := 4) sc_track.nd rfl (Or.inl rfl)) (pss_cons (ps_set (i := 3) sc_track.nd rfl (Or.inl rfl) (pe_callB (call_min2 rfl) (by rfl) m_min bt_min (pa_cons pe_int (pa_cons (pe_op op_add (pv 3) (pe_d D__law_gap_of (hr.mono (by decide)) rfl (pa_cons (pv 0) pa_nil))) pa_nil))))
      (pss_one (ps_expr (pe_bm PySem.F.plainAttrs_list PySem.F.slot_list_append PySem.F.type_list_append mt_append (pv 2) (pa_cons (pe_op op_catA (pe_tup (pa_cons (pv 3) pa_nil)) (pe_d D__law_thing (hr.mono (by decide)) rfl (pa_cons (pv 0) pa_nil))) pa_nil))))))
      (pss_one (ps_ret (pv 2)))))), ?_⟩
    have S := Sd.here e0 hD
    -- found = []
    refine ⟨(by show 0 ≤ sizeLine; decide), fun p hp => ?_⟩
    have np := S.dr.ne hp
    have S := S.lay (.lst []) hp
    refine ⟨_, rfl, _, rfl, _, _, rfl, rfl, d, _, _, rfl, by omega, by omega, S.ex, S.dr, fun n H n0 n1 g hD => ?_⟩
    have hp1 := g.keep p _ upd_same (fun z => np z.symm)
    have h0p := g.new p (by rw [upd_same]; simp) (e0.free hp)
    have S := S.call g hD
    obtain ⟨n, rfl⟩ : ∃ k : Nat, n = (k : Int) := ⟨n.toNat, by omega⟩
    refine ⟨_, rfl, by omega, by omega, for_range (lo := 0) (n := n) (fun i σ H' => ∃ (v4 : Option V) (t : Int) (ps : List Addr) (evs : List (List V)) (G0 : Hp), σ = [some (.ref d), some (.int (m : Int)), some (.ref p), some (.int t), v4] ∧ 0 ≤ t ∧ t ≤ 999999 ∧ Sd d H0 B G0 H' ∧ H' p = some (.lst (ps.map V.ref)) ∧ G0 p = none ∧ Evs G0 ps evs ∧ evs.length = i ∧ (∀ xs ∈ evs, GoodEv xs) ∧ Rise evs ∧ (∀ xs ∈ evs, tickOf xs ≤ t))
      ⟨none, 0, [], [], _, rfl, by decide, by decide, S, hp1, h0p, Evs.nil _, rfl, (fun x h => nomatch h), (fun i x y h => by simp at h), (fun x h => nomatch h)⟩ ?_ ?_⟩
    · clear S hp1 h0p hD g
      rintro i σ H hi ⟨v4, t, ps, evs, G0, rfl, t0, t1, S, hpp, h0p, hev, hl, hg, hrise, hle⟩
      -- tick = min(999999, tick + gap_of(draw))
      refine ⟨_, rfl, _, rfl, d, _, rfl, S.ex, S.dr, fun z G0 H z0 z1 g hD => ?_⟩
      have h0p := g.new p (by rw [hpp]; simp) h0p
      have hpp := g.keep p _ hpp (fun z => np z.symm)
      have S := S.call g hD
      have hev := hev.up g.up
      refine ⟨_, _, rfl, rfl, _, _, rfl, ?_⟩
      obtain ⟨t', et, h1, h2, h3⟩ : ∃ t', (if t + z < 999999 then t + z else 999999) = t' ∧ t ≤ t' ∧ 0 ≤ t' ∧ t' ≤ 999999 := by
        refine ⟨_, rfl, ?_⟩
        split <;> omega
      rw [et]
      -- found.append((tick,) + thing(draw))
      refine ⟨_, rfl, .inl ⟨rfl, _, SqL.of hpp⟩, _, rfl, (by show 1 ≤ sizeLine; decide), fun a ha => ?_⟩
      have hap : p ≠ a := ne_of_none hpp ha
      have hpp : upd _ a (.tup [.int t']) p = _ := (upd_ne hap).trans hpp
      have h0p : upd _ a (.tup [.int t']) p = none := (upd_ne hap).trans h0p
      have hev := hev.up (Ex.new (o := .tup [.int t']) (S.ex.free ha))
      have S := S.put (.tup [.int t']) ha
      refine ⟨_, rfl, d, _, rfl, S.ex, S.dr, fun b ys G0 H ok sc ln g hD _ hb => ?_⟩
      have h0p := g.new p (by rw [hpp]; simp) h0p
      have hpp := g.keep p _ hpp (fun z => np z.symm)
      have hev := hev.up g.up
      have haa := g.up a _ upd_same
      have S := S.call g hD
      refine cat_x S haa hb (by show 1 + _ ≤ 1000; omega) fun c G1 H1 S1 x1 y1 k1 hc => ?_
      have h0p := k1 p (by rw [hpp]; simp) h0p
      have hpp := y1 _ _ hpp
      have hev := hev.up x1
      have S2 := S1.turn (.lst (ps.map V.ref ++ [.ref c])) hp h0p np
      have gd := good_mk h2 h3 ok ln
      refine ⟨p, _, _, rfl, rfl, hpp, mem_lt (by rw [List.length_map, hev.1]; omega), _, t', ps ++ [c], evs ++ [.int t' :: ys], G1, rfl, h2, h3, S2, ?_, h0p, hev.snoc hc, by rw [List.length_append, hl]; rfl, fun xs hx => ?_, fun j x y hx hy => ?_, fun xs hx => ?_⟩
      · rw [upd_same, List.map_append]
        rfl
      · rcases List.mem_append.mp hx with h | h
        · exact hg xs h
        · rw [List.mem_singleton.mp h]
          exact gd
      · have ly := (List.getElem?_eq_some_iff.mp hy).1
        rw [List.length_append] at ly
        have ly : j + 1 < evs.length + 1 := ly
        rw [List.getElem?_append_left (by omega)] at hx
        by_cases e : j + 1 < evs.length
        · rw [List.getElem?_append_left e] at hy
          exact hrise j x y hx hy
        · rw [List.getElem?_append_right (by omega), show j + 1 - evs.length = 0 by omega] at hy
          cases hy
          exact Int.le_trans (hle x (List.mem_of_getElem? hx)) h1
      · rcases List.mem_append.mp hx with h | h
        · exact Int.le_trans (hle xs h) h1
        · rw [List.mem_singleton.mp h]
          exact Int.le_refl _
    · rintro σ H ⟨v4, t, ps, evs, G0, rfl, t0, t1, S, hpp, h0p, hev, hl, hg, hrise, hle⟩
      exact ⟨_, rfl, q p ps evs _ _ S.go S.dr hp hpp h0p hev (by omega) hg hrise⟩
abbrev s_tape_init : Stmt := inClass (topS 1) 0
theorem sc_tape_init : FnScope ["self", "why", "name"] ["self", "why"] (defScope s_tape_init) := ⟨rfl, rfl, rfl, by decide +kernel, rfl, by decide +kernel, by decide +kernel⟩
theorem ok_tape_init {f : Addr} {fd : FuncData} {dvs : List V} (F : FunD K "__init__" "TapeError.__init__" (defArgs s_tape_init) (defBody s_tape_init) (defScope s_tape_init) dvs [] f fd) (m_VE : mg "ValueError" = none)
    (vV : PySem.W.findCls K (.type "ValueError") (.type "type") "__init__" = some (.val (.builtin "ValueError.__init__"))) : FnOk P w K mg base CX0 1 f fd ["self", "why"] (spInit K) := by
  refine okD0 F sc_tape_init (fun vs H Q E h => ?_) (fun cdv A outer s H vs Q E hr h => ?_)
  · obtain ⟨a, C, why, z, rfl, _⟩ := h
    rfl
  · refine ⟨_, pss_cons (ps_expr (pe_veinit rfl m_VE vV (pa_cons (pv 0) (pa_cons (pv 1) pa_nil)))) (pss_cons (ps_set (i := 2) sc_tape_init.nd rfl (Or.inl rfl) (pe_cn (pv 0))) (pss_one (ps_ost (pv 0) (pe_lower (pv 2))))), ?_⟩
    obtain ⟨a, C, why, z, rfl, T1, T2, T3, T4, hz, ha, q⟩ := h
    refine ⟨_, rfl, _, rfl, a, C, _, rfl, (by show 1 ≤ 1000; decide), T1, ha, ?_⟩
    refine ⟨_, rfl, a, C, z, rfl, T2, T3, ha, ?_⟩
    refine ⟨_, rfl, ⟨_, rfl⟩, _, rfl, rfl, by omega, ?_⟩
    exact ⟨_, rfl, a, C, rfl, T1, T4, .inl ⟨ha, fun dx h1 h2 => q dx h1 h2⟩⟩
abbrev s_tried : Stmt := topS 21
theorem sc_tried : FnScope ["_law_ask", "_law_found", "_law_word_here", "e"] ["_law_ask"] (defScope s_tried) := ⟨rfl, rfl, rfl, by decide +kernel, rfl, by decide +kernel, by decide +kernel⟩
/-- what _law_tried makes of its lambda: a new pair (what is told, "") or (None, the error's word) -/
def TTried (K : PySem.W.Frag) (mg : Str → Option Value) : (XK → Hp → VK → Prop) → Hp → VK → Prop := fun tl H Q =>
  tl (fun cls d H' => ∃ (word : Str) (tape : Bool) (Hb : Hp), Raised K mg word tape Hb cls d H' ∧ ∀ p, H' p = none → Q (.ref p) (upd H' p (.tup [.non, .str word]))) H
    (fun v H' => ∀ p, H' p = none → Q (.ref p) (upd H' p (.tup [v, .str ""])))
theorem asks_tried {X : Cx} {g CT CM : Addr} {cdg : Value} {q : Str} (g1 : X.mg "TapeError" = some (.ref CT)) (g2 : X.mg "MissingError" = some (.ref CM)) :
    Asks X ["_law_ask", "_law_found", "_law_word_here", "e"] "_law_tried" (defScope s_tried) g cdg (defBody s_tried) "_law_ask" q (TTried X.K X.mg) := by
  intro f c' s H Q tl act hc h
  refine ⟨_, pss_cons (ps_set (i := 1) sc_tried.nd rfl (Or.inl rfl) pe_non) (pss_cons (ps_set (i := 2) sc_tried.nd rfl (Or.inl rfl) pe_str)
    (pss_cons (ps_try_all (i := 3) (tb := fun W => tAsg (fun τ G Q => τ[0]? = some (some (.ref f)) ∧ G c' = some (LamX.CodeO c' q) ∧ ∃ (Ec : XK) (R : VK), (∀ cls d G', Ec cls d G' → W cls d τ G') ∧ (∀ v G', R v G' → Q v G') ∧ tl Ec G R) (gName 1)) (W0 := fun _ _ _ _ => False)
        rfl rfl sc_tried.nd rfl rfl takes0 (fun W pn xe tk _ => pss_one (ps_set (i := 1) sc_tried.nd rfl (Or.inl rfl) (act W pn xe _ _ tk)))
        (.cons (c := .ref CT) ⟨rfl, by decide, .inl g1⟩ (fun a oe cls d pn hz hf => pss_one (ps_set (i := 2) sc_tried.nd rfl (Or.inl rfl) (pe_xfA hz hf (pv 3))))
          (.cons (c := .ref CM) ⟨rfl, by decide, .inl g2⟩ (fun a oe cls d pn hz hf => pss_one (ps_set (i := 2) sc_tried.nd rfl (Or.inl rfl) (pe_xfA hz hf (pv 3)))) .nil)))
      (pss_one (ps_ret (pe_tup (pa_cons (pv 1) (pa_cons (pv 2) pa_nil))))))), ?_⟩
  refine ⟨rfl, hc, _, _, ?_, ?_, h⟩
  · rintro cls d G' ⟨word, tape, Hb, R, k⟩
    obtain ⟨C, CT', CM', dd, rfl, rfl, hdd, rfl, xf, nc, h1, h2, m1, m2⟩ := R.ex
    obtain rfl : CT' = CT := by rw [h1] at g1; cases g1; rfl
    obtain rfl : CM' = CM := by rw [h2] at g2; cases g2; rfl
    have tail : ∀ a : Addr, (fun σ H (Q : VK) => ∃ C2, XfC X.K C2 ∧ PySem.W.findIn X.K (.ref C2) "called" = some none ∧ tXf a (.ref C) (some dd) C2 "called" (tVar 3) σ H Q) ([some (.ref f), some .non, some (.str ""), some (.ref a)] : L2.St) (upd Hb dd (.xd [("called", .str word)]))
        (fun x H1 => tRet (tTup (tCons (tVar 1) (tCons (tVar 2) tNil))) { nx := fun _ H' => Q .non H', rt := Q } [some (.ref f), some .non, some x, none] H1) := fun a =>
      ⟨C, xf, nc, _, rfl, rfl, rfl, dd, _, _, rfl, upd_same, rfl, _, rfl, _, rfl, (by show 2 ≤ sizeLine; decide), fun p hp => k p hp⟩
    refine ⟨tape, m1, fun _ a ha => tail a, fun ht => ⟨true, m2 ht, fun _ a ha => tail a, fun z => nomatch z⟩⟩
  · intro v G' hv
    exact ⟨_, rfl, _, rfl, (by show 2 ≤ sizeLine; decide), fun p hp => hv p hp⟩
end
end Rt

namespace Rt
open PySem PySem.Spec PyProof.Rows L2 RZ TL
section
variable {P : Program} {w : World} {K : PySem.W.Frag} {mg : Str → Option Value} {base : Heap}
abbrev s_law_k06 : Stmt := topS 23
theorem sc_law_k06 : FnScope ["_law_script", "_law_draw", "_law_turn", "_law_track_here", "_law_least", "_law_most", "_law_by", "_law_due", "_law_handed", "_law_again", "_law_found", "_law_event"] ["_law_script"] (defScope s_law_k06) := ⟨rfl, rfl, rfl, by decide +kernel, rfl, by decide +kernel, by decide +kernel⟩
def spLaw (K : PySem.W.Frag) (T : List (Addr × Str)) : Sp := fun vs H Q _ => ∃ (a : Addr) (ns : List Int), vs = [.ref a] ∧ SqL K H a (ns.map V.int) ∧ LamX.Tabs T H ∧ ∀ H', Q (.bl true) H'
def lamQ : Str := (envOfC "law" (defScope s_law_k06) 0 0 Value.none).qual ++ "<lambda>"
def loT (evs : List (List V)) : Int := 0 - tickOf (evs.getD 0 [])
def hiT (evs : List (List V)) : Int := 999999 - tickOf (evs.getD (evs.length - 1) [])
def duePD (evs : List (List V)) (b : Int) : PyData := if evs ≠ [] ∧ ¬ (loT evs ≤ b ∧ b ≤ hiT evs) then .tuple [.none, .str "badtick"] else .tuple [trackD (evs.map (mvT b)), .str ""]
theorem mvT_okx {b : Int} {xs : List V} (h : Okx xs) : Okx (mvT b xs) := by
  unfold mvT
  refine ⟨fun v hv => ?_, ?_⟩
  · rcases List.mem_cons.mp hv with rfl | hv
    · exact sc2I _
    · exact h.1 v (List.mem_of_mem_drop hv)
  · have := h.2
    rw [List.length_cons, List.length_drop]
    omega
theorem map_okx {b : Int} {evs : List (List V)} (h : ∀ xs ∈ evs, Okx xs) : ∀ xs ∈ evs.map (mvT b), Okx xs := fun xs hx => by
  obtain ⟨y, hy, rfl⟩ := List.mem_map.mp hx
  exact mvT_okx (h y hy)
theorem due_ok {evs : List (List V)} (b : Int) (h : ∀ xs ∈ evs, Okx xs) (hl : evs.length ≤ 250) : (duePD evs b).depth ≤ 3 ∧ smA (duePD evs b) := by
  unfold duePD
  split
  · exact ⟨by show max 0 (max 0 0) + 1 ≤ 3; decide, (by show 2 ≤ 100000; decide), True.intro, True.intro, True.intro⟩
  · refine ⟨?_, (by show 2 ≤ 100000; decide), track_sm (map_okx h) (by rw [List.length_map]; omega), True.intro, True.intro⟩
    have := track_depth (evs.map (mvT b))
    show max (trackD (evs.map (mvT b))).depth (max 0 0) + 1 ≤ 3
    omega
theorem rise_le {evs : List (List V)} (hr : Rise evs) : ∀ (k i : Nat), i + k < evs.length → tickOf (evs.getD i []) ≤ tickOf (evs.getD (i + k) [])
  | 0, i, _ => Int.le_refl _
  | k + 1, i, h => by
    have h1 := rise_le hr k i (by omega)
    have e1 : evs[i + k]? = some evs[i + k] := List.getElem?_eq_getElem (by omega)
    have e2 : evs[i + k + 1]? = some evs[i + k + 1] := List.getElem?_eq_getElem (by omega)
    have h2 := hr (i + k) _ _ e1 e2
    rw [show i + (k + 1) = i + k + 1 by omega, getD_of e2]
    rw [getD_of e1] at h1
    exact Int.le_trans h1 h2
theorem all_in {evs : List (List V)} {b : Int} (hr : Rise evs) (hn : evs ≠ []) : (∀ xs ∈ evs, 0 ≤ tickOf xs + b ∧ tickOf xs + b ≤ 999999) ↔ (loT evs ≤ b ∧ b ≤ hiT evs) := by
  have l0 : 0 < evs.length := List.length_pos_iff.mpr hn
  have e0 : evs[0]? = some evs[0] := List.getElem?_eq_getElem l0
  have e1 : evs[evs.length - 1]? = some evs[evs.length - 1] := List.getElem?_eq_getElem (by omega)
  unfold loT hiT
  refine ⟨fun h => ?_, fun h xs hx => ?_⟩
  · have h1 := h _ (List.mem_of_getElem? e0)
    have h2 := h _ (List.mem_of_getElem? e1)
    rw [getD_of e0, getD_of e1]
    omega
  · obtain ⟨i, hi⟩ := List.mem_iff_getElem?.mp hx
    have li := (List.getElem?_eq_some_iff.mp hi).1
    have h1 := rise_le hr i 0 (by omega)
    have h2 := rise_le hr (evs.length - 1 - i) i (by omega)
    rw [show i + (evs.length - 1 - i) = evs.length - 1 by omega] at h2
    rw [Nat.zero_add] at h1
    rw [getD_of hi] at h1 h2
    omega
open LamX in
theorem ok_law {f cc tb gWr CT CM : Addr} {fd fdW : FuncData} (F : Fun K "law" "law" s_law_k06 f fd) (hcode : fd.code = .ref cc) (TB : TabB base mg cc tb) (D__law_begin : Def P w K mg base "_law_begin" 1 (spBegin K)) (D__law_pick : Def P w K mg base "_law_pick" 1 spPick) (D__law_one : Def P w K mg base "_law_one" 2 spOne)
    (D__law_track : Def P w K mg base "_law_track" 4 spTrack) (D__law_far : Def P w K mg base "_law_far" 2 spFar) (D_later : DefX P w K mg base "later" 5 (spLater K mg)) (D__law_same : Def P w K mg base "_law_same" 4 (spSame K 3))
    (FW : Fun K "_law_tried" "_law_tried" s_tried gWr fdW) (gW : mg "_law_tried" = some (.ref gWr)) (bW0 : L2.Binds K fdW ["_law_ask"] []) (g1 : mg "TapeError" = some (.ref CT)) (g2 : mg "MissingError" = some (.ref CM))
    (m_range : mg "range" = none) (m_list : mg "list" = none) : FnOk P w K mg base CX0 8 f fd ["_law_script"] (spLaw K [(tb, lamQ)]) := by
  obtain ⟨ocW, odW, kVW, docW, pmW, anW, cdW, ctW, slW, rfl, lkW, hcW⟩ := id FW.ex
  have bW := bW0
  refine okC F hcode sc_law_k06 (fun vs H Q E h => ?_) (fun A outer s B vs Q E hr h => ?_)
  · obtain ⟨a, ns, rfl, _⟩ := h
    rfl
  · obtain ⟨a, ns, rfl, hS, hT, q⟩ := h
    refine ⟨_, (pss_cons (ps_set (i := 1) sc_law_k06.nd rfl (Or.inl rfl) (pe_d D__law_begin (hr.mono (by decide)) rfl (pa_cons (pv 0) pa_nil)))
      (pss_cons (ps_for PassesOwn.never rfl (pi_range1 rfl m_range (pa_cons pe_int pa_nil)) (pg_name (i := 2) sc_law_k06.nd rfl (Or.inl rfl)) (pss_cons (ps_set (i := 3) sc_law_k06.nd rfl (Or.inl rfl) (pe_d D__law_track (hr.mono (by decide)) rfl (pa_cons (pv 1) (pa_cons pe_int pa_nil))))
      (pss_cons (ps_asg (pe_tup (pa_cons pe_int (pa_cons pe_int pa_nil))) (pg_tup rfl (pgs_cons (pg_name (i := 4) sc_law_k06.nd rfl (Or.inl rfl)) (pgs_cons (pg_name (i := 5) sc_law_k06.nd rfl (Or.inl rfl)) pgs_nil))))
      (C8.pss_cut (ps_if (pt_cmpR (op_neD hr.units) (pv 3) (pe_lst pa_nil) (nomark _)) (pss_one (ps_par (i := 4) (j := 5) (by rfl) sc_law_k06.nd rfl rfl (by decide) rfl rfl (pa_cons (pe_op op_sub pe_int (pe_ix ix_tup (pe_ix ix_list (pv 3) pe_int (fun _ _ => rfl)) pe_int (fun _ _ => rfl))) (pa_cons (pe_op op_sub pe_int (pe_ix ix_tup (pe_ix ix_list (pv 3) (pe_un un_neg pe_int) (fun _ _ => rfl)) pe_int (fun _ _ => rfl))) pa_nil)) (by rfl))) pss_nil)
      (pss_cons (ps_set (i := 6) sc_law_k06.nd rfl (Or.inr rfl) (pe_d D__law_one (hr.mono (by decide)) rfl (pa_cons (pv 1) (pa_cons (pe_lst (pa_cons (pv 4) (pa_cons (pv 5) (pa_cons (pe_op op_sub (pv 4) pe_int) (pa_cons (pe_op op_add (pv 5) pe_int) (pa_cons pe_int (pa_cons (pe_d D__law_pick (hr.mono (by decide)) rfl (pa_cons (pv 1) (pa_cons pe_int pa_nil))) (pa_cons (pe_d D__law_far (hr.mono (by decide)) rfl (pa_cons (pv 1) pa_nil)) pa_nil)))))))) pa_nil))))
      (pss_cons (ps_set (i := 7) sc_law_k06.nd rfl (Or.inl rfl) (pe_tup (pa_cons (pe_lc (own := [("_law_event", 11)]) (g := gName 11) (tt := tYes) rfl sc_law_k06.nd (pi_list (pv 3)) (blkOk_by (N := ["_law_script", "_law_draw", "_law_turn", "_law_track_here", "_law_least", "_law_most", "_law_by", "_law_due", "_law_handed", "_law_again", "_law_found", "_law_event"]) (sc := defScope s_law_k06) (by decide +kernel)) (fun _ _ _ _ _ => pg_name (i := 11) sc_law_k06.nd rfl (Or.inl rfl)) (fun _ _ _ _ _ => pts_nil) (fun _ _ _ _ _ => (pe_op (r := rCatA K) op_catA (pe_tup (pa_cons (pe_op op_add (pe_ix (r := rIxT K) ix_tup (pv 11) pe_int (fun _ _ => rfl)) (pv 6)) pa_nil)) (pe_slice (r := rSlT K) sl_tup (pv 11) (po_some pe_int) po_none)))) (pa_cons pe_str pa_nil))))
      (C8.pss_cut (ps_if (PW.pt (pw_and (pt_cmpR (op_neD hr.units) (pv 3) (pe_lst pa_nil) (nomark _)) (pw_and1 (pt_not (pt_chain op_le op_le (pv 4) (pv 6) (pv 5)))))) (pss_one (ps_set (i := 7) sc_law_k06.nd rfl (Or.inl rfl) (pe_tup (pa_cons pe_non (pa_cons pe_str pa_nil))))) pss_nil)
      (pss_cons (ps_set (i := 8) sc_law_k06.nd rfl (Or.inr rfl) (pe_callTy call_list_of (by rfl) m_list bt_list (pa_cons (pv 3) pa_nil)))
      (pss_one (ps_for PassesOwn.never rfl (pi_range1 rfl m_range (pa_cons pe_int pa_nil)) (pg_name (i := 9) sc_law_k06.nd rfl (Or.inl rfl)) (C8.pss_cut (ps_set (i := 10) sc_law_k06.nd rfl (Or.inl rfl) (pe_up (pe_asks (T := [(tb, lamQ)]) rfl gW FW.kp lkW hcW bW sc_tried rfl (Or.inl rfl) (asks_tried g1 g2) TB rfl (List.mem_singleton.mpr rfl) (fun p hp _ => by have e := List.mem_singleton.mp hp; subst e; rfl) (hr.mono (by decide)) (show LamX.LamS (defScope s_law_k06) _ from lamS_by (by decide +kernel)) rfl (fun _ _ _ _ _ => rfl) (fun E A outer s H f c2 hr2 => pe_dx D_later hr2 rfl (takes_of rfl rfl rfl rfl) (pa_cons (pv 8) (pa_cons (pv 6) pa_nil))))))
      (pss_cons (ps_if (PW.pt (pw_or (pt_not (pt_val (pe_d D__law_same (hr.mono (by decide)) rfl (pa_cons (pv 10) (pa_cons (pv 7) pa_nil))))) (pw_or1 (pt_cmpR (op_neD hr.units) (pv 8) (pv 3) (nomark _))))) (pss_one (ps_ret pe_bl)) pss_nil)
      (pss_one (ps_if (pt_cmpR op_notN (pe_ix ix_tup (pv 10) pe_int (fun _ _ => rfl)) pe_non (nomark _)) (pss_one (ps_expr (pe_bm PySem.F.plainAttrs_list PySem.F.slot_list_append PySem.F.type_list_append mt_append (pe_ix ix_tup (pv 10) pe_int (fun _ _ => rfl)) (pa_cons pe_int pa_nil)))) pss_nil))))))))))))))
      (pss_one (ps_ret pe_bl)))), ?_⟩
    refine ⟨_, rfl, a, ns, fun _ => none, rfl, hS, (fun b o z => by cases z), fun d H0 H1 gA hD _ => ?_⟩
    have hT := hT.ext fun b o h => gA.keep b o h fun z => z
    refine ⟨5, rfl, by decide, by decide, for_range (lo := 0) (n := 5) (fun i σ H' => ∃ (v2 v3 v4 v5 v6 v7 v8 v9 v10 v11 : Option V) (A0 : Hp), σ = [some (.ref a), some (.ref d), v2, v3, v4, v5, v6, v7, v8, v9, v10, v11] ∧ Ex A0 H' ∧ Dr A0 H' d ∧ Tabs [(tb, lamQ)] H')
      ⟨none, none, none, none, none, none, none, none, none, none, H0, rfl, gA.inn, hD, hT⟩ ?_ ?_⟩
    · clear gA hD hT
      rintro i σ B0 hi ⟨v2, v3, v4, v5, v6, v7, v8, v9, v10, v11, A0, rfl, eA, dA, hT⟩
      have S := Sd.here eA dA
      -- track_here = track(draw, 20)
      refine ⟨_, rfl, d, 20, _, rfl, by decide, S.ex, S.dr, fun p ps evs G H g hD np hp h0 hev hl hg hrise => ?_⟩
      have hT := tabs_go hT S.dr g
      have T : TrS d A0 B0 p ps evs G H := ⟨S.call g hD, hp, h0, hev, dA.ne np⟩
      have hok : ∀ xs ∈ evs, EvK xs := fun xs hx => by
        obtain ⟨_, o, _, t, ys, e, t0, t1, _⟩ := hg xs hx
        exact ⟨o, t, ys, e, t0, t1⟩
      have hokx : ∀ xs ∈ evs, Okx xs := fun xs hx => (hok xs hx).1
      have S2 := T.S.set np T.hp T.h0 T.np
      have hev2 := T.hev.up (Ex.new (o := .lst (ps.map V.ref)) T.h0)
      have T : KS d A0 B0 [(tb, lamQ)] p ps evs (upd G p (.lst (ps.map V.ref))) H := ⟨S2, upd_same, hev2, hT⟩
      clear S2 hev2 hT g hD hp h0 hev S hg
      generalize upd G p (.lst (ps.map V.ref)) = G at *
      have lp : (ps.map V.ref).length = evs.length := by rw [List.length_map, T.hev.1]
      -- least, most = (0, 999999)
      refine ⟨(by show 2 ≤ sizeLine; decide), fun z hz => ?_⟩
      have T := T.put (.tup [.int 0, .int 999999]) hz
      refine ⟨z, _, rfl, SqT.of upd_same, rfl, _, _, rfl, _, _, rfl, rfl, ?_⟩
      generalize upd G z (.tup [.int 0, .int 999999]) = G at *
      -- if track_here != []
      refine ⟨fun σ H' => ∃ (G : Hp), σ = [some (.ref a), some (.ref d), some (.int (0 + (i : Int))), some (.ref p), some (.int (loT evs)), some (.int (hiT evs)), v6, v7, v8, v9, v10, v11] ∧ KS d A0 B0 [(tb, lamQ)] p ps evs G H', ?_, ?_⟩
      · refine ⟨_, rfl, (by show 0 ≤ sizeLine; decide), fun z hz => ?_⟩
        have T := T.put (.lst []) hz
        refine ⟨trackD evs, .list [], dp_track (T.S.ex _ _ T.hp) (T.hev.up T.S.ex) hokx, .lst (SqL.of upd_same) .nil, track_shaped hokx, nil_shaped, ?_⟩
        rw [track_nil]
        refine ⟨_, rfl, ?_⟩
        by_cases hn : evs = []
        · rw [decide_eq_true hn]
          refine ifF rfl ⟨_, ?_, T⟩
          unfold loT hiT
          rw [hn]
          rfl
        rw [decide_eq_false hn]
        refine ifT rfl ?_
        have l0 : 0 < evs.length := List.length_pos_iff.mpr hn
        obtain ⟨e1, x1, he1, hx1, hq1⟩ := T.hev.at_ (i := 0) l0
        obtain ⟨e2, x2, he2, hx2, hq2⟩ := T.hev.at_ (i := evs.length - 1) (by omega)
        obtain ⟨_, t1, y1, rfl, t10, t11⟩ := hok x1 (List.mem_of_getElem? hx1)
        obtain ⟨_, t2, y2, rfl, t20, t21⟩ := hok x2 (List.mem_of_getElem? hx2)
        have k1 : loT evs = 0 - t1 := by unfold loT; rw [getD_of hx1]; rfl
        have k2 : hiT evs = 999999 - t2 := by unfold hiT; rw [getD_of hx2]; rfl
        refine ⟨_, rfl, p, _, _, _, rfl, rfl, SqL.of (T.S.ex _ _ T.hp), at_of (j := 0) rfl (map_ref he1), e1, _, _, _, rfl, rfl, SqT.of (T.S.ex _ _ hq1), at_of (j := 0) rfl rfl, _, _, rfl, rfl, ?_⟩
        refine ⟨_, rfl, _, rfl, p, _, _, _, rfl, rfl, SqL.of (T.S.ex _ _ T.hp), at_last rfl (map_ref he2) (by rw [lp]; omega), e2, _, _, _, rfl, rfl, SqT.of (T.S.ex _ _ hq2), at_of (j := 0) rfl rfl, _, _, rfl, rfl, _, _, rfl, _, ?_, T⟩
        rw [k1, k2]
        rfl
      · clear T hz z
        rintro σ H ⟨G, rfl, T⟩
        -- by = one(draw, [..])
        refine ⟨_, rfl, _, rfl, _, rfl, _, rfl, _, _, rfl, rfl, _, rfl, _, _, rfl, rfl, _, rfl, d, 50, _, rfl, by decide, by decide, T.S.ex, T.S.dr, fun u H u0 u1 g hD => ?_⟩
        have T := T.call g hD
        refine ⟨_, rfl, d, _, rfl, T.S.ex, T.S.dr, fun z G H zb g hD => ?_⟩
        have T := T.call g hD
        refine ⟨(by show 7 ≤ sizeLine; decide), fun l hl7 => ?_⟩
        have T := T.put (.lst [.int (loT evs), .int (hiT evs), .int (loT evs - 1), .int (hiT evs + 1), .int 0, .int u, .int z]) hl7
        refine ⟨d, l, _, _, rfl, T.S.ex, T.S.dr, upd_same, (by show 0 < 7; decide), (by show 7 ≤ 1000000000; decide), fun k w5 H hk g hD => ?_⟩
        have T := T.call g hD
        have lo_b : (loT evs).natAbs < 10 ^ 7 ∧ (hiT evs).natAbs < 10 ^ 7 := by
          have gen : ∀ i, (tickOf (evs.getD i [])).natAbs ≤ 999999 := fun i => by
            by_cases hi : i < evs.length
            · have e := List.getElem?_eq_getElem hi
              obtain ⟨_, t, ys, e2, h0, h1⟩ := hok _ (List.mem_of_getElem? e)
              rw [getD_of e, e2]
              show t.natAbs ≤ 999999
              omega
            · rw [List.getD_eq_getElem?_getD, List.getElem?_eq_none (by omega)]
              decide
          have h1 := gen 0
          have h2 := gen (evs.length - 1)
          unfold loT hiT
          have : (10 : Nat) ^ 7 = 10000000 := by decide
          omega
        obtain ⟨b, rfl, hb⟩ : ∃ n : Int, w5 = .int n ∧ n.natAbs < 10 ^ 35 := by
          have b1 : (10 : Nat) ^ 7 = 10000000 := by decide
          have b2 : (10 : Nat) ^ 30 = 1000000000000000000000000000000 := by decide
          have b3 : (10 : Nat) ^ 35 = 100000000000000000000000000000000000 := by decide
          obtain ⟨c1, c2⟩ := lo_b
          match k, hk with
          | 0, hk => exact ⟨_, (Option.some.inj hk).symm, by omega⟩
          | 1, hk => exact ⟨_, (Option.some.inj hk).symm, by omega⟩
          | 2, hk => exact ⟨_, (Option.some.inj hk).symm, by omega⟩
          | 3, hk => exact ⟨_, (Option.some.inj hk).symm, by omega⟩
          | 4, hk => exact ⟨_, (Option.some.inj hk).symm, by decide⟩
          | 5, hk => exact ⟨_, (Option.some.inj hk).symm, by omega⟩
          | 6, hk => exact ⟨_, (Option.some.inj hk).symm, by omega⟩
          | k + 7, hk => simp at hk
        clear hD g hl7 lo_b
        have dD := fun {D : Addr} (hD : H D = none) => T.S.dr.ne hD
        have bD := fun {D : Addr} (hD : H D = none) => T.S.go.fresh hD
        -- due = ([..], "")
        refine ⟨_, rfl, p, rfl, ⟨_, SqL.of (T.S.ex _ _ T.hp)⟩, fun D hD => lc_list (xs := ps.map V.ref) (fun j H' => ∃ (qs : List Addr) (G' : Hp), H' D = some (.lst (qs.map V.ref)) ∧ KS d A0 B0 [(tb, lamQ)] p ps evs G' H' ∧ G' D = none ∧ Evs G' qs ((evs.take j).map (mvT b)))
          ⟨[], _, upd_same, T.lay _ hD, T.S.ex.free hD, Evs.nil _⟩ (fun j H' _ ⟨_, G', _, T', _⟩ => SqL.of (T'.S.ex _ _ T'.hp)) (fun j x H' hj hp => ?_) (fun H' hp => ?_)⟩
        · obtain ⟨qs, G', h1, T', nD, hv⟩ := hp
          have hil : j < evs.length := by
            have := (List.getElem?_eq_some_iff.mp hj).1
            omega
          obtain ⟨q1, xs, hq, hxs, hqx⟩ := T'.hev.at_ hil
          obtain rfl : x = V.ref q1 := by
            rw [map_ref hq] at hj
            exact (Option.some.inj hj).symm
          obtain ⟨ok, t, ys, rfl, t0, t1⟩ := hok xs (List.mem_of_getElem? hxs)
          have yl : ys.length + 1 ≤ 100 := ok.2
          refine ⟨rfl, ?_⟩
          refine ⟨_, rfl, q1, _, _, _, rfl, rfl, SqT.of (T'.S.ex _ _ hqx), at_of (j := 0) rfl rfl, _, rfl, _, _, rfl, rfl, (by show 1 ≤ sizeLine; decide), fun w hw => ?_⟩
          have T2 := T'.put (.tup [.int (t + b)]) hw
          have nDw : D ≠ w := ne_of_none h1 hw
          have hqx := upPut (o := .tup [.int (t + b)]) (T'.S.ex.free hw) hqx
          have hww := upd_same (H := G') (a := w) (o := HO.tup [.int (t + b)])
          refine ⟨_, rfl, _, rfl, q1, _, rfl, SqT.of (T2.S.ex _ _ hqx), (by
            rw [sI_one _ _ (by show 0 < ys.length + 1; omega)]
            exact fun z => absurd z.1 (by decide)), fun k hk => ?_⟩
          rw [show cutV (V.int t :: ys) (some 1) none = ys from cutV_drop (V.int t :: ys) 1 (by show 1 ≤ ys.length + 1; omega)]
          have T3 := T2.put (.tup ys) hk
          have hww := upPut (o := .tup ys) (T2.S.ex.free hk) hww
          have hD2 := (upd_ne nDw (H := H') (o := HO.tup [.int (t + b)])).trans h1
          have nDk : D ≠ k := ne_of_none hD2 hk
          have hD3 := (upd_ne nDk (o := HO.tup ys)).trans hD2
          refine cat_x T3.S hww upd_same (by show 1 + _ ≤ _; omega) fun c G1 H1 S1 x1 y1 k1 hc => ?_
          have n1 := k1 D (by rw [hD3]; simp) (by rw [upd_ne nDk, upd_ne nDw, nD])
          have x2 : Ex G' G1 := ((Ex.new (T'.S.ex.free hw)).trans (Ex.new (T2.S.ex.free hk))).trans x1
          have hDD := y1 _ _ hD3
          refine ⟨_, hDD, mem_lt (by rw [List.length_map, hv.1, List.length_map, List.length_take]; omega), qs ++ [c], G1, ?_, ⟨S1.turn _ (bD hD) n1 (dD hD), x2 _ _ T'.hp, T'.hev.up x2, tabs_but (T3.hT.ext y1) hDD fun b o h nb => (upd_ne nb).trans h⟩, n1, ?_⟩
          · rw [upd_same, List.map_append]
            rfl
          · rw [take_snoc hxs, List.map_append]
            exact (hv.up x2).snoc hc
        · obtain ⟨qs, G', h1, T', nD, hv⟩ := hp
          rw [lp, List.take_length] at hv
          have T : KS d A0 B0 [(tb, lamQ)] p ps evs (upd G' D (.lst (qs.map V.ref))) H' := ⟨T'.S.set (bD hD) h1 nD (dD hD), upPut nD T'.hp, T'.hev.up (Ex.new nD), T'.hT⟩
          have hv := hv.up (Ex.new (o := .lst (qs.map V.ref)) nD)
          have hDD := upd_same (H := G') (a := D) (o := HO.lst (qs.map V.ref))
          refine ⟨(by show 2 ≤ sizeLine; decide), fun u1 hu1 => ?_⟩
          have hDD := upPut (o := .tup [.ref D, .str ""]) (T.S.ex.free hu1) hDD
          have hv := hv.up (Ex.new (o := .tup [.ref D, .str ""]) (T.S.ex.free hu1))
          have T := T.put (.tup [.ref D, .str ""]) hu1
          have huu := upd_same (H := upd G' D (.lst (qs.map V.ref))) (a := u1) (o := HO.tup [.ref D, .str ""])
          generalize upd (upd G' D (.lst (qs.map V.ref))) u1 (.tup [.ref D, .str ""]) = G1 at *
          generalize upd H' u1 (.tup [.ref D, .str ""]) = H1 at *
          have T := T.clean
          have nG := clean_no G1
          have dpT : Dp K (clean G1) (.ref u1) (.tuple [trackD (evs.map (mvT b)), .str ""]) :=
            .tup (SqT.of (clean_at huu (fun ps z => nomatch z))) (.cons (dp_track (clean_at hDD (fun ps z => nomatch z)) ⟨hv.1, fun i q xs h1 h2 => clean_at (hv.2 i q xs h1 h2) (fun ps z => nomatch z)⟩ (map_okx hokx)) (.cons (.str _) .nil))
          generalize clean G1 = G1 at *
          clear hD h1 T' nD hv hDD huu hu1
          -- if track_here != [] and not ..: due = (None, "badtick")
          refine ⟨fun σ H' => ∃ (u1 : Addr) (G2 : Hp), σ = [some (.ref a), some (.ref d), some (.int (0 + (i : Int))), some (.ref p), some (.int (loT evs)), some (.int (hiT evs)), some (.int b), some (.ref u1), v8, v9, v10, v11] ∧ KS d G1 H1 [(tb, lamQ)] p ps evs G2 H' ∧ NoTab G2 ∧ Dp K G2 (.ref u1) (duePD evs b), ?_, ?_⟩
          · refine ⟨_, rfl, (by show 0 ≤ sizeLine; decide), fun z hz => ?_⟩
            have dpT := dp_up (Ex.new (o := .lst []) (T.S.ex.free hz)) _ _ dpT
            have nG := nG.upd (p := z) (o := .lst []) (fun ps z => nomatch z)
            have T := T.put (.lst []) hz
            refine ⟨trackD evs, .list [], dp_track (T.S.ex _ _ T.hp) (T.hev.up T.S.ex) hokx, .lst (SqL.of upd_same) .nil, track_shaped hokx, nil_shaped, ?_⟩
            rw [track_nil]
            refine ⟨_, rfl, ?_⟩
            have stay : ¬ (evs ≠ [] ∧ ¬ (loT evs ≤ b ∧ b ≤ hiT evs)) → ∃ (u2 : Addr) (G2 : Hp), ([some (.ref a), some (.ref d), some (.int (0 + (i : Int))), some (.ref p), some (.int (loT evs)), some (.int (hiT evs)), some (.int b), some (.ref u1), v8, v9, v10, v11] : L2.St) = [some (.ref a), some (.ref d), some (.int (0 + (i : Int))), some (.ref p), some (.int (loT evs)), some (.int (hiT evs)), some (.int b), some (.ref u2), v8, v9, v10, v11] ∧ KS d G1 H1 [(tb, lamQ)] p ps evs G2 (upd H1 z (.lst [])) ∧ NoTab G2 ∧ Dp K G2 (.ref u2) (duePD evs b) := fun c => by
              refine ⟨u1, _, rfl, T, nG, ?_⟩
              unfold duePD
              rw [if_neg c]
              exact dpT
            by_cases hn : evs = []
            · rw [decide_eq_true hn]
              exact ifF rfl (stay fun z => z.1 hn)
            rw [decide_eq_false hn]
            refine ifT rfl ?_
            have new : ¬ (loT evs ≤ b ∧ b ≤ hiT evs) → ∀ u2, upd H1 z (.lst []) u2 = none → ∃ (u3 : Addr) (G2 : Hp), ([some (.ref a), some (.ref d), some (.int (0 + (i : Int))), some (.ref p), some (.int (loT evs)), some (.int (hiT evs)), some (.int b), some (.ref u2), v8, v9, v10, v11] : L2.St) = [some (.ref a), some (.ref d), some (.int (0 + (i : Int))), some (.ref p), some (.int (loT evs)), some (.int (hiT evs)), some (.int b), some (.ref u3), v8, v9, v10, v11] ∧ KS d G1 H1 [(tb, lamQ)] p ps evs G2 (upd (upd H1 z (.lst [])) u2 (.tup [.non, .str "badtick"])) ∧ NoTab G2 ∧ Dp K G2 (.ref u3) (duePD evs b) := fun c u2 hu2 => by
              refine ⟨u2, _, rfl, T.put _ hu2, nG.upd (p := u2) (o := .tup [.non, .str "badtick"]) (fun ps z => nomatch z), ?_⟩
              unfold duePD
              rw [if_pos ⟨hn, c⟩]
              exact .tup (SqT.of upd_same) (.cons .non (.cons (.str _) .nil))
            refine ⟨_, rfl, _, rfl, _, _, rfl, rfl, _, rfl, ifD (fun c => ?_) (fun c => ?_)⟩
            · refine ⟨_, rfl, _, _, rfl, rfl, _, rfl, ?_⟩
              by_cases c2 : b ≤ hiT evs
              · rw [decide_eq_true c2]
                exact ifF rfl (stay fun z => z.2 ⟨c, c2⟩)
              · rw [decide_eq_false c2]
                exact ifT rfl ⟨(by show 2 ≤ sizeLine; decide), new fun z => c2 z.2⟩
            · refine ⟨_, rfl, ifT rfl ⟨(by show 2 ≤ sizeLine; decide), new fun z => c z.1⟩⟩
          · clear dpT nG T
            rintro σ Hd ⟨u1, G', rfl, T, nG, hdue⟩
            -- handed = list(track_here)
            refine ⟨.ref p, rfl, p, _, rfl, .inl (SqL.of (T.S.ex _ _ T.hp)), fun hd hh => ?_⟩
            have hdue := dp_up (Ex.new (o := .lst (ps.map V.ref)) (T.S.ex.free hh)) _ _ hdue
            have hHd : upd G' hd (.lst (ps.map V.ref)) hd = some (.lst (ps.map V.ref)) := upd_same
            have nG := nG.upd (p := hd) (o := .lst (ps.map V.ref)) (fun ps z => nomatch z)
            have T := T.put (.lst (ps.map V.ref)) hh
            have hPp := T.hp
            have hev := T.hev
            generalize upd G' hd (.lst (ps.map V.ref)) = G2 at *
            refine ⟨2, rfl, by decide, by decide, for_range (lo := 0) (n := 2) (fun _ σ H' => ∃ (v9 v10 : Option V), σ = [some (.ref a), some (.ref d), some (.int (0 + (i : Int))), some (.ref p), some (.int (loT evs)), some (.int (hiT evs)), some (.int b), some (.ref u1), some (.ref hd), v9, v10, v11] ∧ Ex G2 H' ∧ Dr G2 H' d ∧ Tabs [(tb, lamQ)] H') ⟨v9, v10, rfl, T.S.ex, T.S.dr, T.hT⟩ ?_ ?_⟩
            · clear T
              rintro k2 σ H3 hk2 ⟨v9, v10, rfl, eG, dG, hT⟩
              -- found = tried(lambda: later(handed, by))
              refine ⟨fun σ H' => ∃ (t : Addr) (v : V) (wd : Str), σ = [some (.ref a), some (.ref d), some (.int (0 + (i : Int))), some (.ref p), some (.int (loT evs)), some (.int (hiT evs)), some (.int b), some (.ref u1), some (.ref hd), some (.int (0 + (k2 : Int))), some (.ref t), v11] ∧ H' t = some (.tup [v, .str wd]) ∧ Dp K H' (.ref t) (duePD evs b) ∧ (v = .non ∨ ∃ p l, v = .ref p ∧ H' p = some (.lst l) ∧ G2 p = none ∧ p ≠ d ∧ l.length ≤ 1000) ∧ Ex G2 H' ∧ Dr G2 H' d ∧ Tabs [(tb, lamQ)] H', ?_, ?_⟩
              · refine ⟨_, ⟨hT, fun H1 eN hT1 => ?_⟩, fun v H' hq => hq⟩
                have eG := eG.extN nG eN
                have dG := dG.extN eN
                refine ⟨_, rfl, _, rfl, hd, b, ps, evs, G2, rfl, eG, hHd, hev, by omega, fun xs hx => ?_, hb, fun j Hb hj hbad g cls dd H' R => ⟨_, true, Hb, R, fun t ht => ?_⟩, fun hall p1 qs G3 H' g hp1 n1 hp2 hq t ht => ?_⟩
                · obtain ⟨o, t, ys, e, t0, t1⟩ := hok xs hx
                  have := o.2
                  rw [e, List.length_cons] at this
                  exact ⟨t, ys, e, t0, t1, by omega⟩
                · obtain ⟨C, CT', CM', dd', _, _, hdd, rfl, _⟩ := R.ex
                  refine ⟨t, .non, "badtick", rfl, upd_same, ?_, .inl rfl, (g.inn.lay _ hdd).lay _ ht, ((dG.go g fun z => z).lay _ hdd).lay _ ht, tabs_new (tabs_new (hT1.ext (go_ex g)) hdd) ht⟩
                  have hn : evs ≠ [] := fun z => by rw [z] at hj; exact Nat.not_lt_zero _ hj
                  have ej := List.getElem?_eq_getElem hj
                  unfold duePD
                  rw [if_pos ⟨hn, fun z => hbad (by rw [getD_of ej]; exact (all_in hrise hn).mpr z _ (List.mem_of_getElem? ej))⟩]
                  exact .tup (SqT.of upd_same) (.cons .non (.cons (.str _) .nil))
                · have x2 := go_ex g
                  have hp3 : upd H' t (.tup [.ref p1, .str ""]) p1 = some (.lst (qs.map V.ref)) := by
                    rw [upd_ne (ne_of_none hp2 ht)]
                    exact hp2
                  have gw := g.weak
                  refine ⟨t, .ref p1, "", rfl, upd_same, ?_, .inr ⟨p1, _, rfl, hp3, eG.free hp1, (dG.ne hp1).symm, by rw [List.length_map, hq.1, List.length_map]; omega⟩, gw.inn.lay _ ht, (dG.go gw fun z => z).lay _ ht, tabs_new (hT1.ext x2) ht⟩
                  unfold duePD
                  rw [if_neg fun z => z.2 ((all_in hrise z.1).mp hall)]
                  exact .tup (SqT.of upd_same) (.cons (dp_track hp3 (hq.up (g.inn.lay _ ht)) (map_okx hokx)) (.cons (.str _) .nil))
              · clear hT eG dG
                rintro σ H ⟨t, v, wd, rfl, ht, hdt, hv, eG, dG, hT⟩
                -- if not same(found, due) or handed != track_here
                refine ⟨_, rfl, _, rfl, .ref t, .ref u1, duePD evs b, G2, rfl, eG, hdt, dp_up eG _ _ hdue, (due_ok b hokx (by omega)).1, (due_ok b hokx (by omega)).2, fun H2 g2 => ?_⟩
                have x2 := go_ex g2
                have ht2 := x2 _ _ ht
                have dG := dG.go g2 fun z => z
                have hT := hT.ext x2
                have eG := g2.inn
                refine ⟨true, rfl, ?_⟩
                refine ifF rfl ?_
                refine ⟨_, rfl, _, rfl, trackD evs, trackD evs, dp_track (eG _ _ hHd) (hev.up eG) hokx, dp_track (eG _ _ hPp) (hev.up eG) hokx, track_shaped hokx, track_shaped hokx, ?_⟩
                rw [track_eq hokx]
                refine ⟨_, rfl, ifF rfl ?_⟩
                -- if found[0] is not None: found[0].append(0)
                refine ⟨_, rfl, t, _, _, _, rfl, rfl, SqT.of ht2, at_of (j := 0) rfl rfl, rfl, _, rfl, ?_⟩
                rcases hv with rfl | ⟨p1, l, rfl, hp, h0p, npd, hl4⟩
                · exact ifF rfl ⟨_, _, rfl, eG, dG, hT⟩
                · have hp2 := x2 _ _ hp
                  refine ifT rfl ?_
                  refine ⟨_, rfl, t, _, _, _, rfl, rfl, SqT.of ht2, at_of (j := 0) rfl rfl, .inl ⟨rfl, _, SqL.of hp2⟩, p1, _, _, rfl, rfl, hp2, mem_lt (by omega), ?_⟩
                  refine ⟨_, _, rfl, eG.turn _ h0p, dG.turn _ npd.symm, tabs_but hT hp2 fun b o h nb => ?_⟩
                  rw [upd_ne nb]
                  exact h
            · clear T
              rintro σ H3 ⟨v9, v10, rfl, eG, dG, hT⟩
              exact ⟨_, _, _, _, _, _, _, _, _, _, G2, rfl, eG, dG, hT⟩
    · rintro σ H ⟨v2, v3, v4, v5, v6, v7, v8, v9, v10, v11, A0, rfl, eA, dA, hT⟩
      exact q H
end
end Rt

namespace Rt
open PySem PySem.Spec PyProof.Rows L2
section
variable {P : Program} {w : World} {K : PySem.W.Frag} {mg : Str → Option Value} {base : Heap}
end
theorem all_mk {l : PySem.W.OpenLaw} {w : World} {K : PySem.W.Frag} {h : Heap} {mg : Str → Option Value} {fa : Addr} (X : K.In h) (G : h.Ns mainGlobals mg) (hfa : mg "law" = some (.ref fa))
    {f1 : Addr} {od1 an1 : Option Addr} {sl1 : Array (Option Value)} {oc1 kV1 dc1 pm1 cd1 ct1 : Value}
    (a1 : PySem.W.nsIn K mainGlobals "_law_begin" = some (some (.ref f1)))
    (l1 : K.lookup f1 = some ⟨oc1, od1, .func (PySem.W.fnOf "_law_begin" "_law_begin" (defArgs s_begin) (defBody s_begin) (defScope s_begin) .none kV1 dc1 pm1 an1 cd1 ct1), sl1⟩)
    (c1 : PySem.W.codeIn K cd1 "_law_begin" = true) (k1 : PySem.W.keepIn K (.ref f1) = true)
    {f2 : Addr} {od2 an2 : Option Addr} {sl2 : Array (Option Value)} {oc2 kV2 dc2 pm2 cd2 ct2 : Value}
    (a2 : PySem.W.nsIn K mainGlobals "_law_pick" = some (some (.ref f2)))
    (l2 : K.lookup f2 = some ⟨oc2, od2, .func (PySem.W.fnOf "_law_pick" "_law_pick" (defArgs s_pick) (defBody s_pick) (defScope s_pick) .none kV2 dc2 pm2 an2 cd2 ct2), sl2⟩)
    (c2 : PySem.W.codeIn K cd2 "_law_pick" = true) (k2 : PySem.W.keepIn K (.ref f2) = true)
    {f3 : Addr} {od3 an3 : Option Addr} {sl3 : Array (Option Value)} {oc3 kV3 dc3 pm3 cd3 ct3 : Value}
    (a3 : PySem.W.nsIn K mainGlobals "_law_one" = some (some (.ref f3)))
    (l3 : K.lookup f3 = some ⟨oc3, od3, .func (PySem.W.fnOf "_law_one" "_law_one" (defArgs s_one) (defBody s_one) (defScope s_one) .none kV3 dc3 pm3 an3 cd3 ct3), sl3⟩)
    (c3 : PySem.W.codeIn K cd3 "_law_one" = true) (k3 : PySem.W.keepIn K (.ref f3) = true)
    {f4 : Addr} {od4 an4 : Option Addr} {sl4 : Array (Option Value)} {oc4 kV4 dc4 pm4 cd4 ct4 : Value}
    (a4 : PySem.W.nsIn K mainGlobals "_law_far" = some (some (.ref f4)))
    (l4 : K.lookup f4 = some ⟨oc4, od4, .func (PySem.W.fnOf "_law_far" "_law_far" (defArgs s_far) (defBody s_far) (defScope s_far) .none kV4 dc4 pm4 an4 cd4 ct4), sl4⟩)
    (c4 : PySem.W.codeIn K cd4 "_law_far" = true) (k4 : PySem.W.keepIn K (.ref f4) = true)
    {f5 : Addr} {od5 an5 : Option Addr} {sl5 : Array (Option Value)} {oc5 kV5 dc5 pm5 cd5 ct5 : Value}
    (a5 : PySem.W.nsIn K mainGlobals "_law_same" = some (some (.ref f5)))
    (l5 : K.lookup f5 = some ⟨oc5, od5, .func (PySem.W.fnOf "_law_same" "_law_same" (defArgs s_same) (defBody s_same) (defScope s_same) .none kV5 dc5 pm5 an5 cd5 ct5), sl5⟩)
    (c5 : PySem.W.codeIn K cd5 "_law_same" = true) (k5 : PySem.W.keepIn K (.ref f5) = true)
    {f6 : Addr} {od6 an6 : Option Addr} {sl6 : Array (Option Value)} {oc6 kV6 dc6 pm6 cd6 ct6 : Value}
    (a6 : PySem.W.nsIn K mainGlobals "is_within" = some (some (.ref f6)))
    (l6 : K.lookup f6 = some ⟨oc6, od6, .func (PySem.W.fnOf "is_within" "is_within" (defArgs s_is_within) (defBody s_is_within) (defScope s_is_within) .none kV6 dc6 pm6 an6 cd6 ct6), sl6⟩)
    (c6 : PySem.W.codeIn K cd6 "is_within" = true) (k6 : PySem.W.keepIn K (.ref f6) = true)
    {f7 : Addr} {od7 an7 : Option Addr} {sl7 : Array (Option Value)} {oc7 kV7 dc7 pm7 cd7 ct7 : Value}
    (a7 : PySem.W.nsIn K mainGlobals "_law_channel" = some (some (.ref f7)))
    (l7 : K.lookup f7 = some ⟨oc7, od7, .func (PySem.W.fnOf "_law_channel" "_law_channel" (defArgs s_channel) (defBody s_channel) (defScope s_channel) .none kV7 dc7 pm7 an7 cd7 ct7), sl7⟩)
    (c7 : PySem.W.codeIn K cd7 "_law_channel" = true) (k7 : PySem.W.keepIn K (.ref f7) = true)
    {f8 : Addr} {od8 an8 : Option Addr} {sl8 : Array (Option Value)} {oc8 kV8 dc8 pm8 cd8 ct8 : Value}
    (a8 : PySem.W.nsIn K mainGlobals "_law_key" = some (some (.ref f8)))
    (l8 : K.lookup f8 = some ⟨oc8, od8, .func (PySem.W.fnOf "_law_key" "_law_key" (defArgs s_key) (defBody s_key) (defScope s_key) .none kV8 dc8 pm8 an8 cd8 ct8), sl8⟩)
    (c8 : PySem.W.codeIn K cd8 "_law_key" = true) (k8 : PySem.W.keepIn K (.ref f8) = true)
    {f9 : Addr} {od9 an9 : Option Addr} {sl9 : Array (Option Value)} {oc9 kV9 dc9 pm9 cd9 ct9 : Value}
    (a9 : PySem.W.nsIn K mainGlobals "_law_word" = some (some (.ref f9)))
    (l9 : K.lookup f9 = some ⟨oc9, od9, .func (PySem.W.fnOf "_law_word" "_law_word" (defArgs s_word) (defBody s_word) (defScope s_word) .none kV9 dc9 pm9 an9 cd9 ct9), sl9⟩)
    (c9 : PySem.W.codeIn K cd9 "_law_word" = true) (k9 : PySem.W.keepIn K (.ref f9) = true)
    {f10 : Addr} {od10 an10 : Option Addr} {sl10 : Array (Option Value)} {oc10 kV10 dc10 pm10 cd10 ct10 : Value}
    (a10 : PySem.W.nsIn K mainGlobals "_law_thing" = some (some (.ref f10)))
    (l10 : K.lookup f10 = some ⟨oc10, od10, .func (PySem.W.fnOf "_law_thing" "_law_thing" (defArgs s_thing) (defBody s_thing) (defScope s_thing) .none kV10 dc10 pm10 an10 cd10 ct10), sl10⟩)
    (c10 : PySem.W.codeIn K cd10 "_law_thing" = true) (k10 : PySem.W.keepIn K (.ref f10) = true)
    {f11 : Addr} {od11 an11 : Option Addr} {sl11 : Array (Option Value)} {oc11 kV11 dc11 pm11 cd11 ct11 : Value}
    (a11 : PySem.W.nsIn K mainGlobals "_law_gap_of" = some (some (.ref f11)))
    (l11 : K.lookup f11 = some ⟨oc11, od11, .func (PySem.W.fnOf "_law_gap_of" "_law_gap_of" (defArgs s_gap_of) (defBody s_gap_of) (defScope s_gap_of) .none kV11 dc11 pm11 an11 cd11 ct11), sl11⟩)
    (c11 : PySem.W.codeIn K cd11 "_law_gap_of" = true) (k11 : PySem.W.keepIn K (.ref f11) = true)
    {f12 : Addr} {od12 an12 : Option Addr} {sl12 : Array (Option Value)} {oc12 kV12 dc12 pm12 cd12 ct12 : Value}
    (a12 : PySem.W.nsIn K mainGlobals "_law_track" = some (some (.ref f12)))
    (l12 : K.lookup f12 = some ⟨oc12, od12, .func (PySem.W.fnOf "_law_track" "_law_track" (defArgs s_track) (defBody s_track) (defScope s_track) .none kV12 dc12 pm12 an12 cd12 ct12), sl12⟩)
    (c12 : PySem.W.codeIn K cd12 "_law_track" = true) (k12 : PySem.W.keepIn K (.ref f12) = true)
    {f13 : Addr} {od13 an13 : Option Addr} {sl13 : Array (Option Value)} {oc13 kV13 dc13 pm13 cd13 ct13 : Value}
    {T13 : Addr} {oT13 : Value} {dT13 : Option Addr} {nT13 : Nat} {sT13 : Array (Option Value)} {tk13_0 : Tok}
    {cI13 : Addr} (b13 : PySem.W.nsIn K mainGlobals "TapeError" = some (some (.ref cI13))) (a13 : PySem.W.findIn K (.ref cI13) "__init__" = some (some (.ref f13)))
    (l13 : K.lookup f13 = some ⟨oc13, od13, .func (PySem.W.fnOf "__init__" "TapeError.__init__" (defArgs s_tape_init) (defBody s_tape_init) (defScope s_tape_init) (.ref T13) kV13 dc13 pm13 an13 cd13 ct13), sl13⟩)
    (c13 : PySem.W.codeIn K cd13 "TapeError.__init__" = true) (k13 : PySem.W.keepIn K (.ref f13) = true)
    (t13 : K.lookup T13 = some ⟨oT13, dT13, .seq #[.str "" tk13_0] nT13, sT13⟩)
    {f14 : Addr} {od14 an14 : Option Addr} {sl14 : Array (Option Value)} {oc14 kV14 dc14 pm14 cd14 ct14 : Value}
    (a14 : PySem.W.nsIn K mainGlobals "_law_tried" = some (some (.ref f14)))
    (l14 : K.lookup f14 = some ⟨oc14, od14, .func (PySem.W.fnOf "_law_tried" "_law_tried" (defArgs s_tried) (defBody s_tried) (defScope s_tried) .none kV14 dc14 pm14 an14 cd14 ct14), sl14⟩)
    (c14 : PySem.W.codeIn K cd14 "_law_tried" = true) (k14 : PySem.W.keepIn K (.ref f14) = true)
    {f15 : Addr} {od15 an15 : Option Addr} {sl15 : Array (Option Value)} {oc15 kV15 dc15 pm15 cd15 ct15 : Value}
    (a15 : PySem.W.nsIn K mainGlobals "need_tick" = some (some (.ref f15)))
    (l15 : K.lookup f15 = some ⟨oc15, od15, .func (PySem.W.fnOf "need_tick" "need_tick" (defArgs s_need_tick) (defBody s_need_tick) (defScope s_need_tick) .none kV15 dc15 pm15 an15 cd15 ct15), sl15⟩)
    (c15 : PySem.W.codeIn K cd15 "need_tick" = true) (k15 : PySem.W.keepIn K (.ref f15) = true)
    {f16 : Addr} {od16 an16 : Option Addr} {sl16 : Array (Option Value)} {oc16 kV16 dc16 pm16 cd16 ct16 : Value}
    (a16 : PySem.W.nsIn K mainGlobals "moved_tick" = some (some (.ref f16)))
    (l16 : K.lookup f16 = some ⟨oc16, od16, .func (PySem.W.fnOf "moved_tick" "moved_tick" (defArgs s_moved_tick) (defBody s_moved_tick) (defScope s_moved_tick) .none kV16 dc16 pm16 an16 cd16 ct16), sl16⟩)
    (c16 : PySem.W.codeIn K cd16 "moved_tick" = true) (k16 : PySem.W.keepIn K (.ref f16) = true)
    {f17 : Addr} {od17 an17 : Option Addr} {sl17 : Array (Option Value)} {oc17 kV17 dc17 pm17 cd17 ct17 : Value}
    (a17 : PySem.W.nsIn K mainGlobals "later" = some (some (.ref f17)))
    (l17 : K.lookup f17 = some ⟨oc17, od17, .func (PySem.W.fnOf "later" "later" (defArgs s_later) (defBody s_later) (defScope s_later) .none kV17 dc17 pm17 an17 cd17 ct17), sl17⟩)
    (c17 : PySem.W.codeIn K cd17 "later" = true) (k17 : PySem.W.keepIn K (.ref f17) = true)
    {f18 : Addr} {od18 an18 : Option Addr} {sl18 : Array (Option Value)} {oc18 kV18 dc18 pm18  ct18 : Value}
    {cc18 tb18 : Addr} {ox18 : Value} {dx18 : Option Addr} {vx18 : Array Value} {sx18 : Array (Option Value)}
    (a18 : PySem.W.nsIn K mainGlobals "law" = some (some (.ref f18)))
    (l18 : K.lookup f18 = some ⟨oc18, od18, .func (PySem.W.fnOf "law" "law" (defArgs s_law_k06) (defBody s_law_k06) (defScope s_law_k06) .none kV18 dc18 pm18 an18 (.ref cc18) ct18), sl18⟩)
    (c18 : PySem.W.codeIn K (.ref cc18) "law" = true) (k18 : PySem.W.keepIn K (.ref f18) = true)
    (lx18 : K.lookup cc18 = some ⟨ox18, dx18, .fields vx18, sx18⟩) (vt18 : vx18[11]? = some (.ref tb18)) (nt18 : K.lookup tb18 = none)
    (tl18 : PySem.W.CodeHd h cc18 tb18 ∧ h.get? tb18 = some { cls := .none, data := .fields #[] })
    (z_list : PySem.W.nsIn K mainGlobals "list" = some none)
    (z_len : PySem.W.nsIn K mainGlobals "len" = some none)
    (z_range : PySem.W.nsIn K mainGlobals "range" = some none)
    (z_isinstance : PySem.W.nsIn K mainGlobals "isinstance" = some none)
    (z_bool : PySem.W.nsIn K mainGlobals "bool" = some none)
    (z_int : PySem.W.nsIn K mainGlobals "int" = some none)
    (z_str : PySem.W.nsIn K mainGlobals "str" = some none)
    (z_tuple : PySem.W.nsIn K mainGlobals "tuple" = some none)
    (z_all : PySem.W.nsIn K mainGlobals "all" = some none)
    (z_min : PySem.W.nsIn K mainGlobals "min" = some none)
    (z_ValueError : PySem.W.nsIn K mainGlobals "ValueError" = some none)
    {q1 : Tok}
    (g_MOST_TICK : PySem.W.nsIn K mainGlobals "MOST_TICK" = some (some (.int 999999 q1)))
    {G_TapeError : Addr} (h_TapeError : PySem.W.nsIn K mainGlobals "TapeError" = some (some (.ref G_TapeError)))
    {G_MissingError : Addr} (h_MissingError : PySem.W.nsIn K mainGlobals "MissingError" = some (some (.ref G_MissingError)))
    {C_BadTick CT_BadTick CM_BadTick : Addr} (e_BadTick : ErrF K "BadTick" "BadTick" "badtick" C_BadTick CT_BadTick CM_BadTick f13 true)
    (vV : PySem.W.findCls K (.type "ValueError") (.type "type") "__init__" = some (.val (.builtin "ValueError.__init__")))
    : LamX.LawAtS l w K CX0 8 63 "_law_script" mg fa h := by
  have e := hfa.symm.trans (PySem.W.mg_of X G a18)
  cases e
  have m_list := PySem.W.mg_none_of X G z_list
  have m_len := PySem.W.mg_none_of X G z_len
  have m_range := PySem.W.mg_none_of X G z_range
  have m_isinstance := PySem.W.mg_none_of X G z_isinstance
  have m_bool := PySem.W.mg_none_of X G z_bool
  have m_int := PySem.W.mg_none_of X G z_int
  have m_str := PySem.W.mg_none_of X G z_str
  have m_tuple := PySem.W.mg_none_of X G z_tuple
  have m_all := PySem.W.mg_none_of X G z_all
  have m_min := PySem.W.mg_none_of X G z_min
  have m_ValueError := PySem.W.mg_none_of X G z_ValueError
  have g_TapeError := PySem.W.mg_of X G h_TapeError
  have g_MissingError := PySem.W.mg_of X G h_MissingError
  have c_MOST_TICK : ∃ u, mg "MOST_TICK" = some u ∧ L2.RelV (.int 999999) u := ⟨_, PySem.W.mg_of X G g_MOST_TICK, ⟨_, rfl⟩⟩
  have F1 := fun_mk (st := s_begin) l1 c1 k1
  have g1 := PySem.W.mg_of X G a1
  have b1 := F1.binds (ps := ["_law_script"]) fun _ _ _ _ _ _ us hl => match us, hl with | [_], _ => rfl
  have F2 := fun_mk (st := s_pick) l2 c2 k2
  have g2 := PySem.W.mg_of X G a2
  have b2 := F2.binds (ps := ["_law_draw", "_law_many"]) fun _ _ _ _ _ _ us hl => match us, hl with | [_, _], _ => rfl
  have F3 := fun_mk (st := s_one) l3 c3 k3
  have g3 := PySem.W.mg_of X G a3
  have b3 := F3.binds (ps := ["_law_draw", "_law_some"]) fun _ _ _ _ _ _ us hl => match us, hl with | [_, _], _ => rfl
  have F4 := fun_mk (st := s_far) l4 c4 k4
  have g4 := PySem.W.mg_of X G a4
  have b4 := F4.binds (ps := ["_law_draw"]) fun _ _ _ _ _ _ us hl => match us, hl with | [_], _ => rfl
  have F5 := fun_mk (st := s_same) l5 c5 k5
  have g5 := PySem.W.mg_of X G a5
  have b5 := F5.binds (ps := ["_law_found", "_law_due"]) fun _ _ _ _ _ _ us hl => match us, hl with | [_, _], _ => rfl
  have F6 := fun_mk (st := s_is_within) l6 c6 k6
  have g6 := PySem.W.mg_of X G a6
  have b6 := F6.binds (ps := ["thing", "low", "high"]) fun _ _ _ _ _ _ us hl => match us, hl with | [_, _, _], _ => rfl
  have F7 := fun_mk (st := s_channel) l7 c7 k7
  have g7 := PySem.W.mg_of X G a7
  have b7 := F7.binds (ps := ["_law_draw"]) fun _ _ _ _ _ _ us hl => match us, hl with | [_], _ => rfl
  have F8 := fun_mk (st := s_key) l8 c8 k8
  have g8 := PySem.W.mg_of X G a8
  have b8 := F8.binds (ps := ["_law_draw"]) fun _ _ _ _ _ _ us hl => match us, hl with | [_], _ => rfl
  have F9 := fun_mk (st := s_word) l9 c9 k9
  have g9 := PySem.W.mg_of X G a9
  have b9 := F9.binds (ps := ["_law_draw", "_law_most"]) fun _ _ _ _ _ _ us hl => match us, hl with | [_, _], _ => rfl
  have F10 := fun_mk (st := s_thing) l10 c10 k10
  have g10 := PySem.W.mg_of X G a10
  have b10 := F10.binds (ps := ["_law_draw"]) fun _ _ _ _ _ _ us hl => match us, hl with | [_], _ => rfl
  have F11 := fun_mk (st := s_gap_of) l11 c11 k11
  have g11 := PySem.W.mg_of X G a11
  have b11 := F11.binds (ps := ["_law_draw"]) fun _ _ _ _ _ _ us hl => match us, hl with | [_], _ => rfl
  have F12 := fun_mk (st := s_track) l12 c12 k12
  have g12 := PySem.W.mg_of X G a12
  have b12 := F12.binds (ps := ["_law_draw", "_law_most"]) fun _ _ _ _ _ _ us hl => match us, hl with | [_, _], _ => rfl
  have F13 : FunD K "__init__" "TapeError.__init__" (defArgs s_tape_init) (defBody s_tape_init) (defScope s_tape_init) [.str ""] [] f13 _ := ⟨⟨_, _, _, _, _, _, _, _, _, _, rfl, l13, c13, .inr ⟨by simp, _, _, _, _, rfl, t13, rfl, (.cons ⟨_, rfl⟩ .nil)⟩, .inl rfl⟩, k13⟩
  obtain ⟨ds13, vd13, b13⟩ := F13.binds1 (ps := ["self", "why"]) 2 1 (by simp) rfl fun _ _ _ _ _ _ _ us its h1 h2 => match us, its, h1, h2 with | [_, _], [_], _, _ => ⟨_, rfl, rfl⟩
  cases vd13
  have F14 := fun_mk (st := s_tried) l14 c14 k14
  have g14 := PySem.W.mg_of X G a14
  have b14 := F14.binds (ps := ["_law_ask"]) fun _ _ _ _ _ _ us hl => match us, hl with | [_], _ => rfl
  have F15 := fun_mk (st := s_need_tick) l15 c15 k15
  have g15 := PySem.W.mg_of X G a15
  have b15 := F15.binds (ps := ["tick"]) fun _ _ _ _ _ _ us hl => match us, hl with | [_], _ => rfl
  have F16 := fun_mk (st := s_moved_tick) l16 c16 k16
  have g16 := PySem.W.mg_of X G a16
  have b16 := F16.binds (ps := ["tick", "by"]) fun _ _ _ _ _ _ us hl => match us, hl with | [_, _], _ => rfl
  have F17 := fun_mk (st := s_later) l17 c17 k17
  have g17 := PySem.W.mg_of X G a17
  have b17 := F17.binds (ps := ["track", "by"]) fun _ _ _ _ _ _ us hl => match us, hl with | [_, _], _ => rfl
  have F18 := fun_mk (st := s_law_k06) l18 c18 k18
  have g18 := PySem.W.mg_of X G a18
  refine ⟨PySem.W.fnOf "law" "law" (defArgs s_law_k06) (defBody s_law_k06) (defScope s_law_k06) .none kV18 dc18 pm18 an18 (.ref cc18) ct18, [(cc18, tb18)], spLaw K [(tb18, lamQ)], List.forall_mem_cons.mpr ⟨tl18.2, (fun _ h => nomatch h)⟩, List.forall_mem_cons.mpr ⟨nt18, (fun _ h => nomatch h)⟩, List.forall_mem_cons.mpr ⟨tl18.1, (fun _ h => nomatch h)⟩, fun s v => .of_eq rfl, fun H a ns hl hbits hT hS => ?hsp, fun base Kb Gb TB => ?_⟩
  case hsp =>
    exact ⟨a, ns, rfl, hS, fun p hp => by have e := List.mem_singleton.mp hp; subst e; exact LamX.TabS.nil (hT (cc18, tb18) (by simp)), fun _ => rfl⟩
  have TB18 : LamX.TabB base mg cc18 tb18 := TB (cc18, tb18) (by simp)
  have D__law_begin : Def l.prog w K mg base "_law_begin" 1 (spBegin K) := ⟨_, _, _, _, g1, ok_begin (P := l.prog) (w := w) (base := base) F1 m_list, k1, b1, .nil⟩
  have D__law_pick : Def l.prog w K mg base "_law_pick" 1 spPick := ⟨_, _, _, _, g2, ok_pick (P := l.prog) (w := w) (base := base) F2 m_len, k2, b2, .nil⟩
  have D__law_one : Def l.prog w K mg base "_law_one" 2 spOne := ⟨_, _, _, _, g3, ok_one (P := l.prog) (w := w) (base := base) F3 D__law_pick m_len, k3, b3, .nil⟩
  have D__law_far : Def l.prog w K mg base "_law_far" 2 spFar := ⟨_, _, _, _, g4, ok_far (P := l.prog) (w := w) (base := base) F4 D__law_pick, k4, b4, .nil⟩
  have D__law_same : Def l.prog w K mg base "_law_same" 4 (spSame K 3) := ⟨_, _, _, _, g5, ok_same (P := l.prog) (w := w) (base := base) F5 b5 g5 m_isinstance m_bool m_int m_str m_list m_tuple m_len m_all m_range 3, k5, b5, .nil⟩
  have D_is_within : Def l.prog w K mg base "is_within" 1 spWithin := ⟨_, _, _, _, g6, ok_is_within (P := l.prog) (w := w) (base := base) F6 m_isinstance m_int m_bool, k6, b6, .nil⟩
  have D__law_channel : Def l.prog w K mg base "_law_channel" 2 (spInts 0 15) := ⟨_, _, _, _, g7, ok_channel (P := l.prog) (w := w) (base := base) F7 D__law_pick, k7, b7, .nil⟩
  have D__law_key : Def l.prog w K mg base "_law_key" 2 (spInts 0 127) := ⟨_, _, _, _, g8, ok_key (P := l.prog) (w := w) (base := base) F8 D__law_pick, k8, b8, .nil⟩
  have D__law_word : Def l.prog w K mg base "_law_word" 2 spWord := ⟨_, _, _, _, g9, ok_word (P := l.prog) (w := w) (base := base) F9 D__law_pick m_range, k9, b9, .nil⟩
  have D__law_thing : Def l.prog w K mg base "_law_thing" 3 spThing := ⟨_, _, _, _, g10, ok_thing (P := l.prog) (w := w) (base := base) F10 D__law_pick D__law_channel D__law_key D__law_word, k10, b10, .nil⟩
  have D__law_gap_of : Def l.prog w K mg base "_law_gap_of" 2 (spInts 0 999999) := ⟨_, _, _, _, g11, ok_gap_of (P := l.prog) (w := w) (base := base) F11 D__law_pick, k11, b11, .nil⟩
  have D__law_track : Def l.prog w K mg base "_law_track" 4 spTrack := ⟨_, _, _, _, g12, ok_track (P := l.prog) (w := w) (base := base) F12 D__law_pick D__law_gap_of D__law_thing m_range m_min, k12, b12, .nil⟩
  have I_tape_init := ok_tape_init (P := l.prog) (w := w) (base := base) F13 m_ValueError vV
  have T_BadTick := err_mk (P := l.prog) (w := w) (base := base) e_BadTick X G I_tape_init b13
  have D_need_tick : DefX l.prog w K mg base "need_tick" 3 (spNeedTick K mg) := ⟨_, _, _, g15, ok_need_tick (P := l.prog) (w := w) (base := base) F15 T_BadTick D_is_within c_MOST_TICK, k15, b15⟩
  have D_moved_tick : DefX l.prog w K mg base "moved_tick" 4 (spMovedTick K mg) := ⟨_, _, _, g16, ok_moved_tick (P := l.prog) (w := w) (base := base) F16 D_need_tick, k16, b16⟩
  have D_later : DefX l.prog w K mg base "later" 5 (spLater K mg) := ⟨_, _, _, g17, ok_later (P := l.prog) (w := w) (base := base) F17 D_moved_tick, k17, b17⟩
  exact ok_law (P := l.prog) (w := w) (base := base) F18 rfl TB18 D__law_begin D__law_pick D__law_one D__law_track D__law_far D_later D__law_same F14 g14 b14 g_TapeError g_MissingError m_range m_list
end Rt
open PySem PySem.W PyProof.Rows
set_option maxRecDepth 100000 in
set_option maxHeartbeats 0 in
theorem PySem.Challenge.cw_reedtapes_k06_tracks_later_holds : PySem.Challenge.rw_reedtapes_k06_tracks_later.Holds := by
  w_on; o_law; k_head; (case hw => w_witness2)
  k_fill
  refine Rt.walkT (l := PySem.Challenge.rw_reedtapes_k06_tracks_later) (n := 63) (k := 8) (x := "_law_script") (CX := fun _ => L2.CX0) rfl (by decide) rfl ⟨rfl, by decide, by decide⟩ (fun w h Y => PySem.W.km_in_of Y) ?F (fun _ _ _ _ _ h => h)
  case F =>
    intro w mg fa h KX G hmg tabs
    refine' Rt.all_mk KX G hmg ?a1 ?l1 ?c1 ?k1 ?a2 ?l2 ?c2 ?k2 ?a3 ?l3 ?c3 ?k3 ?a4 ?l4 ?c4 ?k4 ?a5 ?l5 ?c5 ?k5 ?a6 ?l6 ?c6 ?k6 ?a7 ?l7 ?c7 ?k7 ?a8 ?l8 ?c8 ?k8 ?a9 ?l9 ?c9 ?k9 ?a10 ?l10 ?c10 ?k10 ?a11 ?l11 ?c11 ?k11 ?a12 ?l12 ?c12 ?k12 ?b13 ?a13 ?l13 ?c13 ?k13 ?t13 ?a14 ?l14 ?c14 ?k14 ?a15 ?l15 ?c15 ?k15 ?a16 ?l16 ?c16 ?k16 ?a17 ?l17 ?c17 ?k17 ?a18 ?l18 ?c18 ?k18 ?lx18 ?vt18 ?nt18 ?tl18 ?z_list ?z_len ?z_range ?z_isinstance ?z_bool ?z_int ?z_str ?z_tuple ?z_all ?z_min ?z_ValueError ?g_MOST_TICK ?h_TapeError ?h_MissingError ?e_BadTick ?vV
    (case a1 => k_is)
    (case l1 => k_is)
    (case c1 => k_is)
    (case k1 => k_is)
    (case a2 => k_is)
    (case l2 => k_is)
    (case c2 => k_is)
    (case k2 => k_is)
    (case a3 => k_is)
    (case l3 => k_is)
    (case c3 => k_is)
    (case k3 => k_is)
    (case a4 => k_is)
    (case l4 => k_is)
    (case c4 => k_is)
    (case k4 => k_is)
    (case a5 => k_is)
    (case l5 => k_is)
    (case c5 => k_is)
    (case k5 => k_is)
    (case a6 => k_is)
    (case l6 => k_is)
    (case c6 => k_is)
    (case k6 => k_is)
    (case a7 => k_is)
    (case l7 => k_is)
    (case c7 => k_is)
    (case k7 => k_is)
    (case a8 => k_is)
    (case l8 => k_is)
    (case c8 => k_is)
    (case k8 => k_is)
    (case a9 => k_is)
    (case l9 => k_is)
    (case c9 => k_is)
    (case k9 => k_is)
    (case a10 => k_is)
    (case l10 => k_is)
    (case c10 => k_is)
    (case k10 => k_is)
    (case a11 => k_is)
    (case l11 => k_is)
    (case c11 => k_is)
    (case k11 => k_is)
    (case a12 => k_is)
    (case l12 => k_is)
    (case c12 => k_is)
    (case k12 => k_is)
    (case b13 => k_is)
    (case a13 => k_is)
    (case l13 => k_is)
    (case c13 => k_is)
    (case k13 => k_is)
    (case t13 => k_is)
    (case a14 => k_is)
    (case l14 => k_is)
    (case c14 => k_is)
    (case k14 => k_is)
    (case a15 => k_is)
    (case l15 => k_is)
    (case c15 => k_is)
    (case k15 => k_is)
    (case a16 => k_is)
    (case l16 => k_is)
    (case c16 => k_is)
    (case k16 => k_is)
    (case a17 => k_is)
    (case l17 => k_is)
    (case c17 => k_is)
    (case k17 => k_is)
    (case a18 => k_is)
    (case l18 => k_is)
    (case c18 => k_is)
    (case k18 => k_is)
    (case lx18 => k_is)
    (case vt18 => rfl)
    (case nt18 => kernel_rfl)
    (case tl18 => refine tabs "law" _ _ _ rfl (by kernel_rfl))
    (case z_list => k_is)
    (case z_len => k_is)
    (case z_range => k_is)
    (case z_isinstance => k_is)
    (case z_bool => k_is)
    (case z_int => k_is)
    (case z_str => k_is)
    (case z_tuple => k_is)
    (case z_all => k_is)
    (case z_min => k_is)
    (case z_ValueError => k_is)
    (case g_MOST_TICK => k_is)
    (case h_TapeError => k_is)
    (case h_MissingError => k_is)
    (case e_BadTick =>
      refine' Rt.errF_of ?e_BadTick_g ?e_BadTick_gT ?e_BadTick_gM ?e_BadTick_cls1 ?e_BadTick_cls2 ?e_BadTick_nm1 ?e_BadTick_nm2 ?e_BadTick_sa ?e_BadTick_exC ?e_BadTick_tyC ?e_BadTick_kC ?e_BadTick_ga ?e_BadTick_gg ?e_BadTick_hd ?e_BadTick_ca ?e_BadTick_cg ?e_BadTick_ct ?e_BadTick_mo ?e_BadTick_rd ?e_BadTick_fc ?e_BadTick_nc ?e_BadTick_iC ?e_BadTick_tI ?e_BadTick_t1 ?e_BadTick_t2 ?e_BadTick_t3 ?e_BadTick_t4 ?e_BadTick_u1 ?e_BadTick_u2 ?e_BadTick_u3 ?e_BadTick_u4 ?e_BadTick_low ?e_BadTick_sz
      (case e_BadTick_g => k_is)
      (case e_BadTick_gT => k_is)
      (case e_BadTick_gM => k_is)
      (case e_BadTick_cls1 => k_is)
      (case e_BadTick_cls2 => decide +kernel)
      (case e_BadTick_nm1 => k_is)
      (case e_BadTick_nm2 => rfl)
      (case e_BadTick_sa => k_is)
      (case e_BadTick_exC => k_is)
      (case e_BadTick_tyC => k_is)
      (case e_BadTick_kC => k_is)
      (case e_BadTick_ga => k_is)
      (case e_BadTick_gg => k_is)
      (case e_BadTick_hd => k_is)
      (case e_BadTick_ca => k_is)
      (case e_BadTick_cg => k_is)
      (case e_BadTick_ct => k_is)
      (case e_BadTick_mo => k_is)
      (case e_BadTick_rd => k_is)
      (case e_BadTick_fc => k_is)
      (case e_BadTick_nc => k_is)
      (case e_BadTick_iC => k_is)
      (case e_BadTick_tI => k_is)
      (case e_BadTick_t1 => k_is)
      (case e_BadTick_t2 => k_is)
      (case e_BadTick_t3 => k_is)
      (case e_BadTick_t4 => k_is)
      (case e_BadTick_u1 => k_is)
      (case e_BadTick_u2 => k_is)
      (case e_BadTick_u3 => k_is)
      (case e_BadTick_u4 => k_is)
      (case e_BadTick_low => decide +kernel)
      (case e_BadTick_sz => decide +kernel))
    (case vV => k_is)
