import PyProof.Rows.All
import Wide.All
import OpenK.AllK
import Wide.FinOn
import HandS.ForMost
import HandS.ForExc
import HandS.Zip
import HandS.Wide
import HandS.WideBits
import HandS.IsInst
import HandS.Style
import HandS.Conv
import HandS.Flow
import HandS.RevRange
import HandS.SortOrd
import HandS.TupLe
import HandS.EndBits
import HandS.StrMore
import HandS.Codes
import HandS.CallSlots
import HandS.RaiseOp
import KE.SortData
import HandS.Hot
import HandS.HotCalls
import HandS.ExcCtx
import HandS.ExcIs
import HandS.CallLocal
import HandS.SuiteRaise
import HandS.ExcOwn
import KE.RegKIsAll
import KE.RegKTryMore
import KE.KOwnIn
import HandS.AnyAll
import HandS.JoinGen
import HandS.EndTab
import HandS.EndOwn
import KE.KUnpackStar
import HandS.FStr
import HandS.More
import PySem.Challenge.RW_wheelways_k05_written
set_option Elab.async false
set_option linter.all false
set_option maxRecDepth 100000
set_option maxHeartbeats 4000000
local macro_rules | `(tactic| walk_at "w") => `(tactic| repeat (first | refine ⟨_, rfl, ?_⟩ | refine ⟨_, _, rfl, rfl, ?_⟩ | refine ⟨rfl, ?_⟩))
/-! Plain mathematics of wheels: products, the reflected way, distances. No Python here. -/
namespace Ww

/-- the product of sizes, over the wheels from the last one on -/
def prd : List Int → Int
  | [] => 1
  | s :: r => prd r * s
def ones (l : List Int) : Prop := ∀ s ∈ l, 1 ≤ s
theorem ones_tail {s : Int} {r : List Int} (h : ones (s :: r)) : ones r := fun x hx => h x (List.mem_cons_of_mem _ hx)
theorem ones_head {s : Int} {r : List Int} (h : ones (s :: r)) : 1 ≤ s := h s List.mem_cons_self
theorem prd_pos : ∀ {l : List Int}, ones l → 1 ≤ prd l
  | [], _ => Int.le_refl 1
  | s :: r, h => by
    have h1 := prd_pos (ones_tail h)
    have h2 := ones_head h
    show 1 ≤ prd r * s
    have h3 : 1 * 1 ≤ prd r * s := Int.mul_le_mul h1 h2 (by omega) (by omega)
    omega
theorem prd_append : ∀ (a b : List Int), prd (a ++ b) = prd a * prd b
  | [], b => by show prd b = 1 * prd b; omega
  | s :: a, b => by
    show prd (a ++ b) * s = prd a * s * prd b
    rw [prd_append a b, Int.mul_assoc, Int.mul_comm (prd b) s, ← Int.mul_assoc]
theorem prd_reverse : ∀ (l : List Int), prd l.reverse = prd l
  | [] => rfl
  | s :: r => by
    rw [List.reverse_cons, prd_append, prd_reverse r]
    show prd r * (1 * s) = prd r * s
    rw [Int.one_mul]

/-- a wheel's number, counted from its other end where the number ahead is odd -/
def mir (s p a : Int) : Int := if (a % 2 != 0) = true then s - 1 - p else p
theorem mir_cases (s p a : Int) : (a % 2 = 0 ∧ mir s p a = p) ∨ (a % 2 = 1 ∧ mir s p a = s - 1 - p) := by
  unfold mir
  have h : a % 2 = 0 ∨ a % 2 = 1 := by omega
  rcases h with h | h
  · rw [h]; left; exact ⟨rfl, rfl⟩
  · rw [h]; right; exact ⟨rfl, rfl⟩
theorem mir_mir (s p a : Int) : mir s (mir s p a) a = p := by
  rcases mir_cases s p a with ⟨h, e⟩ | ⟨h, e⟩
  · rcases mir_cases s (mir s p a) a with ⟨h2, e2⟩ | ⟨h2, e2⟩
    · rw [e2, e]
    · omega
  · rcases mir_cases s (mir s p a) a with ⟨h2, e2⟩ | ⟨h2, e2⟩
    · omega
    · rw [e2, e]; omega
theorem mir_in {s p a : Int} (h0 : 0 ≤ p) (h1 : p < s) : 0 ≤ mir s p a ∧ mir s p a < s := by
  rcases mir_cases s p a with ⟨_, e⟩ | ⟨_, e⟩ <;> rw [e] <;> omega

/-- a setting of wheels -/
def okS : List Int → List Int → Prop
  | [], [] => True
  | s :: r, p :: q => 0 ≤ p ∧ p < s ∧ okS r q
  | _, _ => False
theorem okS_len : ∀ {l q : List Int}, okS l q → q.length = l.length
  | [], [], _ => rfl
  | [], _ :: _, h => h.elim
  | _ :: _, [], h => h.elim
  | _ :: r, _ :: q, h => by rw [List.length_cons, List.length_cons, okS_len h.2.2]
theorem okS_append : ∀ {a b c d : List Int}, okS a b → okS c d → okS (a ++ c) (b ++ d)
  | [], [], _, _, _, h => h
  | [], _ :: _, _, _, h, _ => h.elim
  | _ :: _, [], _, _, h, _ => h.elim
  | _ :: _, _ :: _, _, _, h, h2 => ⟨h.1, h.2.1, okS_append h.2.2 h2⟩
theorem okS_reverse : ∀ {a b : List Int}, okS a b → okS a.reverse b.reverse
  | [], [], _ => trivial
  | [], _ :: _, h => h.elim
  | _ :: _, [], h => h.elim
  | s :: a, p :: b, h => by
    rw [List.reverse_cons, List.reverse_cons]
    exact okS_append (okS_reverse h.2.2) ⟨h.1, h.2.1, trivial⟩
theorem okS_at : ∀ {l q : List Int}, okS l q → ∀ {i : Nat} {s p : Int}, l[i]? = some s → q[i]? = some p → 0 ≤ p ∧ p < s
  | [], [], _, i, s, p, h, _ => by simp at h
  | [], _ :: _, h, _, _, _, _, _ => h.elim
  | _ :: _, [], h, _, _, _, _, _ => h.elim
  | x :: r, y :: q, h, 0, s, p, e1, e2 => by
    have a : x = s := Option.some.inj e1
    have b : y = p := Option.some.inj e2
    subst a b
    exact ⟨h.1, h.2.1⟩
  | x :: r, y :: q, h, i + 1, s, p, e1, e2 => okS_at h.2.2 (i := i) e1 e2
theorem okS_of : ∀ {l q : List Int}, q.length = l.length → (∀ (i : Nat) (s p : Int), l[i]? = some s → q[i]? = some p → 0 ≤ p ∧ p < s) → okS l q
  | [], [], _, _ => trivial
  | [], _ :: _, h, _ => by simp at h
  | _ :: _, [], h, _ => by simp at h
  | x :: r, y :: q, h, k => ⟨(k 0 x y rfl rfl).1, (k 0 x y rfl rfl).2, okS_of (by simpa using h) fun i s p e1 e2 => k (i + 1) s p e1 e2⟩

/-- the number of a setting on the way, over the wheels from the last one on -/
def nofR : List Int → List Int → Int
  | s :: r, p :: q => nofR r q * s + mir s p (nofR r q)
  | _, _ => 0
/-- the setting of a number, from the last wheel on -/
def sof : List Int → Int → List Int
  | [], _ => []
  | s :: r, n => mir s (n % s) (n / s) :: sof r (n / s)
def ahd : List Int → Int → Int
  | [], n => n
  | s :: r, n => ahd r (n / s)
theorem sof_len : ∀ (l : List Int) (n : Int), (sof l n).length = l.length
  | [], _ => rfl
  | _ :: r, n => by show (sof r _).length + 1 = r.length + 1; rw [sof_len r]
theorem sof_snoc : ∀ (l : List Int) (s n : Int), sof (l ++ [s]) n = sof l n ++ [mir s (ahd l n % s) (ahd l n / s)]
  | [], _, _ => rfl
  | x :: l, s, n => by
    show mir x (n % x) (n / x) :: sof (l ++ [s]) (n / x) = mir x (n % x) (n / x) :: sof l (n / x) ++ [_]
    rw [sof_snoc l s (n / x)]
    rfl
theorem ahd_snoc : ∀ (l : List Int) (s n : Int), ahd (l ++ [s]) n = ahd l n / s
  | [], _, _ => rfl
  | x :: l, s, n => ahd_snoc l s (n / x)
theorem ahd_nn : ∀ {l : List Int} {n : Int}, ones l → 0 ≤ n → 0 ≤ ahd l n
  | [], _, _, h => h
  | s :: r, n, ho, h => by
    have hs := ones_head ho
    exact ahd_nn (l := r) (n := n / s) (ones_tail ho) (Int.ediv_nonneg h (by omega))
theorem div_lt {n s a : Int} (hs : 1 ≤ s) (h : n < a * s) : n / s < a := Int.ediv_lt_of_lt_mul (by omega) h
theorem mod_in {n s : Int} (hs : 1 ≤ s) : 0 ≤ n % s ∧ n % s < s := ⟨Int.emod_nonneg _ (by omega), Int.emod_lt_of_pos _ (by omega)⟩
theorem sof_ok : ∀ {l : List Int} {n : Int}, ones l → okS l (sof l n)
  | [], _, _ => trivial
  | s :: r, n, ho => by
    have h := mod_in (n := n) (ones_head ho)
    have h2 := mir_in (a := n / s) h.1 h.2
    exact ⟨h2.1, h2.2, sof_ok (ones_tail ho)⟩
theorem nof_sof : ∀ {l : List Int} {n : Int}, ones l → 0 ≤ n → n < prd l → nofR l (sof l n) = n
  | [], n, _, h0, h1 => by
    have : prd [] = 1 := rfl
    show (0 : Int) = n
    omega
  | s :: r, n, ho, h0, h1 => by
    have hs := ones_head ho
    have ih := nof_sof (l := r) (n := n / s) (ones_tail ho) (Int.ediv_nonneg h0 (by omega)) (div_lt hs h1)
    show nofR r (sof r (n / s)) * s + mir s (mir s (n % s) (n / s)) (nofR r (sof r (n / s))) = n
    rw [ih, mir_mir]
    have := Int.mul_ediv_add_emod n s
    rw [Int.mul_comm] at this
    exact this
theorem nof_in : ∀ {l q : List Int}, okS l q → 0 ≤ nofR l q ∧ nofR l q < prd l
  | [], [], _ => by
    show (0 : Int) ≤ 0 ∧ (0 : Int) < 1
    omega
  | [], _ :: _, h => h.elim
  | _ :: _, [], h => h.elim
  | s :: r, p :: q, h => by
    obtain ⟨a, b⟩ := nof_in h.2.2
    have m := mir_in (a := nofR r q) h.1 h.2.1
    show 0 ≤ nofR r q * s + mir s p (nofR r q) ∧ nofR r q * s + mir s p (nofR r q) < prd r * s
    have hs : 0 ≤ s := by have := h.1; have := h.2.1; omega
    have h1 : 0 ≤ nofR r q * s := Int.mul_nonneg a hs
    have h2 : (nofR r q + 1) * s ≤ prd r * s := Int.mul_le_mul_of_nonneg_right (by omega) hs
    rw [Int.add_mul, Int.one_mul] at h2
    omega
theorem sof_nof : ∀ {l q : List Int}, okS l q → sof l (nofR l q) = q
  | [], [], _ => rfl
  | [], _ :: _, h => h.elim
  | _ :: _, [], h => h.elim
  | s :: r, p :: q, h => by
    have ih := sof_nof h.2.2
    have m := mir_in (a := nofR r q) h.1 h.2.1
    have hs : s ≠ 0 := by have := h.1; have := h.2.1; omega
    have e1 : (nofR r q * s + mir s p (nofR r q)) / s = nofR r q := by
      rw [Int.add_comm, Int.add_mul_ediv_right _ _ hs, Int.ediv_eq_zero_of_lt m.1 m.2]
      omega
    have e2 : (nofR r q * s + mir s p (nofR r q)) % s = mir s p (nofR r q) := by
      rw [Int.add_comm, Int.add_mul_emod_self_right, Int.emod_eq_of_lt m.1 m.2]
    show mir s ((nofR r q * s + mir s p (nofR r q)) % s) ((nofR r q * s + mir s p (nofR r q)) / s) :: sof r ((nofR r q * s + mir s p (nofR r q)) / s) = p :: q
    rw [e1, e2, mir_mir, ih]
theorem sof_zero : ∀ {l : List Int}, ones l → sof l 0 = List.replicate l.length 0
  | [], _ => rfl
  | s :: r, ho => by
    have e : sof (s :: r) 0 = mir s (0 % s) (0 / s) :: sof r (0 / s) := rfl
    rw [e, Int.zero_ediv, Int.zero_emod, sof_zero (ones_tail ho)]
    rfl

def absI (n : Int) : Int := if n < 0 then -n else n
theorem absI_eq (n : Int) : absI n = (n.natAbs : Int) := by
  unfold absI
  split <;> omega
/-- how far two settings are apart -/
def dist : List Int → List Int → Int
  | a :: r, b :: q => absI (a - b) + dist r q
  | _, _ => 0
theorem dist_self : ∀ l : List Int, dist l l = 0
  | [] => rfl
  | a :: r => by
    show absI (a - a) + dist r r = 0
    rw [dist_self r, Int.sub_self]
    rfl
theorem dist_comm : ∀ a b : List Int, dist a b = dist b a
  | [], [] => rfl
  | [], _ :: _ => rfl
  | _ :: _, [] => rfl
  | x :: a, y :: b => by
    show absI (x - y) + dist a b = absI (y - x) + dist b a
    rw [dist_comm a b, absI_eq, absI_eq]
    omega
theorem dist_append : ∀ {a b c d : List Int}, a.length = b.length → dist (a ++ c) (b ++ d) = dist a b + dist c d
  | [], [], c, d, _ => by
    show dist c d = 0 + dist c d
    omega
  | [], _ :: _, _, _, h => by simp at h
  | _ :: _, [], _, _, h => by simp at h
  | x :: a, y :: b, c, d, h => by
    show absI (x - y) + dist (a ++ c) (b ++ d) = absI (x - y) + dist a b + dist c d
    rw [dist_append (a := a) (b := b) (by simpa using h)]
    omega
theorem dist_reverse : ∀ {a b : List Int}, a.length = b.length → dist a.reverse b.reverse = dist a b
  | [], [], _ => rfl
  | [], _ :: _, h => by simp at h
  | _ :: _, [], h => by simp at h
  | x :: a, y :: b, h => by
    have h2 : a.length = b.length := by simpa using h
    rw [List.reverse_cons, List.reverse_cons, dist_append (by rw [List.length_reverse, List.length_reverse]; exact h2), dist_reverse h2]
    show _ + (absI (x - y) + 0) = absI (x - y) + dist a b
    omega
theorem sof_step : ∀ {l : List Int} {n : Int}, ones l → 0 ≤ n → n + 1 < prd l → dist (sof l n) (sof l (n + 1)) = 1
  | [], n, _, h0, h1 => by
    have : prd [] = 1 := rfl
    omega
  | s :: r, n, ho, h0, h1 => by
    have hs := ones_head ho
    have hm := mod_in (n := n) hs
    have ed := Int.mul_ediv_add_emod n s
    have ez : s ≠ 0 := by omega
    show absI (mir s (n % s) (n / s) - mir s ((n + 1) % s) ((n + 1) / s)) + dist (sof r (n / s)) (sof r ((n + 1) / s)) = 1
    by_cases c : n % s + 1 < s
    · have e1 : (n + 1) / s = n / s := by
        have : n + 1 = (n % s + 1) + s * (n / s) := by omega
        rw [this, Int.add_mul_ediv_left _ _ ez, Int.ediv_eq_zero_of_lt (by omega) c]
        omega
      have e2 : (n + 1) % s = n % s + 1 := by
        have : n + 1 = (n % s + 1) + s * (n / s) := by omega
        rw [this, Int.add_mul_emod_self_left, Int.emod_eq_of_lt (by omega) c]
      rw [e1, e2, dist_self]
      rcases mir_cases s (n % s) (n / s) with ⟨p, e⟩ | ⟨p, e⟩
      · rcases mir_cases s (n % s + 1) (n / s) with ⟨p2, f⟩ | ⟨p2, f⟩
        · rw [e, f, absI_eq]; omega
        · omega
      · rcases mir_cases s (n % s + 1) (n / s) with ⟨p2, f⟩ | ⟨p2, f⟩
        · omega
        · rw [e, f, absI_eq]; omega
    · have em : n % s = s - 1 := by omega
      have e1 : (n + 1) / s = n / s + 1 := by
        have : n + 1 = s * (n / s + 1) := by
          rw [Int.mul_add, Int.mul_one]
          omega
        rw [this, Int.mul_ediv_cancel_left _ ez]
      have e2 : (n + 1) % s = 0 := by
        have : n + 1 = s * (n / s + 1) := by
          rw [Int.mul_add, Int.mul_one]
          omega
        rw [this, Int.mul_emod_right]
      have hb : n / s + 1 < prd r := by
        have := div_lt hs h1
        omega
      have ih := sof_step (l := r) (n := n / s) (ones_tail ho) (Int.ediv_nonneg h0 (by omega)) hb
      rw [e1, e2, ih, em]
      have z : mir s (s - 1) (n / s) = mir s 0 (n / s + 1) := by
        rcases mir_cases s (s - 1) (n / s) with ⟨p, e⟩ | ⟨p, e⟩
        · rcases mir_cases s 0 (n / s + 1) with ⟨p2, f⟩ | ⟨p2, f⟩
          · omega
          · rw [e, f]; omega
        · rcases mir_cases s 0 (n / s + 1) with ⟨p2, f⟩ | ⟨p2, f⟩
          · rw [e, f]; omega
          · omega
      rw [z, Int.sub_self]
      rfl
end Ww
/-! what every proof over the wheels leans on: a def at its place in the text (Df), a def that keeps a promise (Ok), its call as a rule (pe_ok), the built-ins (Bi) -/
namespace Ww
open PySem PySem.Spec PyProof.Rows L2
/-- the def x of the text st, as the top has left it -/
structure At (K : PySem.W.Frag) (mg : Str → Option Value) (x : Str) (st : Stmt) (ps : List Str) (f : Addr) (fd : FuncData) : Prop where
  F : Fun K x x st f fd
  g : mg x = some (.ref f)
  b : Binds K fd ps []
def Df (K : PySem.W.Frag) (mg : Str → Option Value) (x : Str) (st : Stmt) (ps : List Str) : Prop := ∃ f fd, At K mg x st ps f fd
/-- the def x keeps the promise sp, whatever CX lets out -/
structure OkC (P : Program) (w : World) (K : PySem.W.Frag) (mg : Str → Option Value) (base : Heap) (CX : CXT) (x : Str) (ps : List Str) (k : Nat) (sp : Sp) : Prop where
  ex : ∃ (f : Addr) (fd : FuncData), mg x = some (.ref f) ∧ PySem.W.keepIn K (.ref f) = true ∧ Binds K fd ps [] ∧ FnOk P w K mg base CX k f fd ps sp
abbrev Ok (P : Program) (w : World) (K : PySem.W.Frag) (mg : Str → Option Value) (base : Heap) (x : Str) (ps : List Str) (k : Nat) (sp : Sp) : Prop := OkC P w K mg base CX0 x ps k sp
theorem pe_ok {X : Cx} {x : Str} {ps : List Str} {k j : Nat} {sp : Sp} {e : Expr} {es : List Expr} {t : TA} {p pos : Pos} (C : Ok X.prog X.w X.K X.mg X.base x ps k sp) (hr : Room j X.A) (hk : k ≤ j) (ha : PA X (e :: es) t) (hg : Gl X x := by rfl)
    (hdb : (x == ("__debug__" : Str)) = false := by decide) (he : starEach (e :: es) X.env = (false, eval e X.env) :: starEach es X.env := by rfl) (hpl : (backTo pos (starEach es X.env)).any (·.1) = false := by rfl) :
    PE X (.Call (.Name x p) (e :: es) [] pos) (tCall sp [] E0 t) := by
  obtain ⟨f, fd, g, kp, b, F⟩ := C.ex
  exact pe_call F (hr.mono hk) hg g kp b .nil pass0 ha hdb he hpl
theorem At.ok {P : Program} {w : World} {K : PySem.W.Frag} {mg : Str → Option Value} {base : Heap} {x : Str} {st : Stmt} {N ps : List Str} {k : Nat} {sp : Sp} {f : Addr} {fd : FuncData} (D : At K mg x st ps f fd) (S : FnScope N ps (defScope st)) (len : ∀ vs H Q E, sp vs H Q E → vs.length = ps.length)
    (hbody : ∀ (cdv : Value) (A : Around) (outer : List Env) (s : Shared) (H : Hp) (vs : List V) (Q : VK) (E : XK), Room k (A.deeper (envOfC x (defScope st) s.heap.objs.size f cdv)) → sp vs H Q E →
      ∃ t, PSs (cxOf CX0 P w K mg base N x (defScope st) f cdv A outer s H E).nox (defBody st) t ∧ t { nx := fun _ H' => Q .non H', rt := Q } (start N vs) H) : FnOk P w K mg base CX0 (k + 1) f fd ps sp := D.F.ok S len hbody
theorem Df.ok {P : Program} {w : World} {K : PySem.W.Frag} {mg : Str → Option Value} {base : Heap} {x : Str} {st : Stmt} {N ps : List Str} {k : Nat} {sp : Sp} (D : Df K mg x st ps) (S : FnScope N ps (defScope st)) (len : ∀ vs H Q E, sp vs H Q E → vs.length = ps.length)
    (hbody : ∀ (f : Addr) (cdv : Value) (A : Around) (outer : List Env) (s : Shared) (H : Hp) (vs : List V) (Q : VK) (E : XK), Room k (A.deeper (envOfC x (defScope st) s.heap.objs.size f cdv)) → sp vs H Q E →
      ∃ t, PSs (cxOf CX0 P w K mg base N x (defScope st) f cdv A outer s H E).nox (defBody st) t ∧ t { nx := fun _ H' => Q .non H', rt := Q } (start N vs) H) : Ok P w K mg base x ps (k + 1) sp := by
  obtain ⟨f, fd, F, g, b⟩ := D
  exact ⟨f, fd, g, F.kp, b, F.ok S len fun cdv A outer s H vs Q E hr h => hbody f cdv A outer s H vs Q E hr h⟩
theorem OkC.mono {P : Program} {w : World} {K : PySem.W.Frag} {mg : Str → Option Value} {base : Heap} {CX : CXT} {x : Str} {ps : List Str} {k j : Nat} {sp : Sp} (C : OkC P w K mg base CX x ps k sp) (h : k ≤ j) : OkC P w K mg base CX x ps j sp := by
  obtain ⟨f, fd, g, kp, b, F⟩ := C.ex
  exact ⟨f, fd, g, kp, b, F.mono h⟩
/-- the built-ins stand -/
structure Bi (mg : Str → Option Value) : Prop where
  len : mg "len" = none
  range : mg "range" = none
  zip : mg "zip" = none
  reversed : mg "reversed" = none
  divmod : mg "divmod" = none
  enumerate : mg "enumerate" = none
  any : mg "any" = none
  all : mg "all" = none
  sum : mg "sum" = none
  abs : mg "abs" = none
  min : mg "min" = none
  list : mg "list" = none
  int : mg "int" = none
  bool : mg "bool" = none
  str : mg "str" = none
  tuple : mg "tuple" = none
  isinstance : mg "isinstance" = none
  sorted : mg "sorted" = none
/-! ### what stays: objects as they stand, a code object's table as a table (it may grow) -/
/-- of an object o that stood: what stands there now -/
def St : HO → Option HO → Prop
  | .tbl ps, v => ∃ ps' : Array Value, v = some (.tbl ps') ∧ (TriplesOk ps.toList → TriplesOk ps'.toList)
  | o, v => v = some o
theorem St.self {o : HO} {v : Option HO} (e : v = some o) : St o v := by
  cases o <;> first | exact e | exact ⟨_, e, fun h => h⟩
theorem St.some {o : HO} {v : Option HO} (h : St o v) : ∃ u, v = some u := by
  cases o <;> first | exact ⟨_, h⟩ | exact ⟨_, h.choose_spec.1⟩
def Same (H H' : Hp) : Prop := ∀ b o, H b = some o → St o (H' b)
theorem Same.refl (H : Hp) : Same H H := fun _ _ h => .self h
theorem Same.of {H H' : Hp} (h : L2.Same H H') : Same H H' := fun b o e => .self (h b o e)
theorem Same.trans {H H1 H2 : Hp} (a : Same H H1) (b : Same H1 H2) : Same H H2 := fun c o e => by
  have h := a c o e
  cases o with
  | tbl ps =>
    obtain ⟨p1, e1, t1⟩ := h
    obtain ⟨p2, e2, t2⟩ := b c _ e1
    exact ⟨p2, e2, fun t => t2 (t1 t)⟩
  | _ => exact b c _ h
theorem Same.free {H H' : Hp} (s : Same H H') {l : Addr} (h : H' l = none) : H l = none := by
  cases e : H l with
  | none => rfl
  | some o =>
    obtain ⟨u, hu⟩ := (s l o e).some
    rw [h] at hu
    cases hu
theorem Same.ne {H H' : Hp} (s : Same H H') {b p : Addr} {o : HO} (e : H b = some o) (n : H' p = none) : b ≠ p := ne_of_none e (s.free n)
theorem Same.seq {K : PySem.W.Frag} {H H' : Hp} {a : Addr} {xs : List V} (s : Same H H') (h : SqL K H a xs) : SqL K H' a xs := by
  rcases h with (h | ⟨o, h⟩) | h
  · exact .inl (.inl (s _ _ h))
  · exact .inl (.inr ⟨o, s _ _ h⟩)
  · exact .inr h
theorem same_upd {H : Hp} {p : Addr} {o : HO} (h : H p = none) : Same H (upd H p o) := fun b x e => by
  rw [upd_ne (ne_of_none e h)]
  exact .self e
/-- what came after may change -/
theorem Same.put {H H' : Hp} {p : Addr} {o : HO} (s : Same H H') (h : H p = none) : Same H (upd H' p o) := fun b x e => by
  rw [upd_ne (ne_of_none e h)]
  exact s _ _ e
theorem map_int_at {ns : List Int} {i : Nat} {y : V} (h : (ns.map V.int)[i]? = some y) : ∃ z, ns[i]? = some z ∧ y = V.int z := by
  rw [List.getElem?_map] at h
  cases e : ns[i]? with
  | none => rw [e] at h; cases h
  | some z => rw [e] at h; exact ⟨z, rfl, (Option.some.inj h).symm⟩
theorem at_map_int {ns : List Int} {i : Nat} {z : Int} (h : ns[i]? = some z) : (ns.map V.int)[i]? = some (V.int z) := by
  rw [List.getElem?_map, h]
  rfl
theorem take_more {α : Type} : ∀ {l : List α} {i : Nat} {x : α}, l[i]? = some x → l.take (i + 1) = l.take i ++ [x]
  | [], i, x, h => by simp at h
  | a :: l, 0, x, h => by
    have e : a = x := Option.some.inj h
    subst e
    rfl
  | a :: l, i + 1, x, h => by
    have ih := take_more (l := l) (i := i) (x := x) h
    show a :: l.take (i + 1) = a :: l.take i ++ [x]
    rw [ih]
    rfl
theorem lt_line {n : Nat} (h : n ≤ 100000) : n < sizeLine := Nat.lt_of_le_of_lt h (by decide)
theorem le_line {n : Nat} (h : n ≤ 100000) : n ≤ sizeLine := Nat.le_of_lt (lt_line h)
/-! the layer's rules with the written part told by name (so that they serve within comprehensions) -/
section
variable {X : Cx}
theorem ixL (K : PySem.W.Frag) (h : X.K = K := by rfl) : IxR X (rIxL K) := by subst h; exact ix_list
theorem ixT (K : PySem.W.Frag) (h : X.K = K := by rfl) : IxR X (rIxT K) := by subst h; exact ix_tup
theorem isiK (K : PySem.W.Frag) (h : X.K = K := by rfl) : CallR X (.builtin "isinstance") (rIsi K) := by subst h; exact call_isi
theorem lenK (K : PySem.W.Frag) (h : X.K = K := by rfl) : CallR X (.builtin "len") (fun xs H Q => ∃ p ys, xs = [.ref p] ∧ (SqL K H p ys ∨ SqT K H p ys) ∧ Q (.int ys.length) H) := by subst h; exact call_len_seq
theorem listK (K : PySem.W.Frag) (h : X.K = K := by rfl) : CallR X (.type "list") (fun xs H Q => ∃ p ys, xs = [.ref p] ∧ (SqL K H p ys ∨ SqT K H p ys) ∧ ∀ l, H l = none → Q (.ref l) (upd H l (.lst ys))) := by subst h; exact call_list_of
theorem anyK (K : PySem.W.Frag) (hc : X.calm = true) (h : X.K = K := by rfl) : CallR X (.builtin "any") (rAny K) := by subst h; exact cr_any hc
theorem allK (K : PySem.W.Frag) (hc : X.calm = true) (h : X.K = K := by rfl) : CallR X (.builtin "all") (rAll K) := by subst h; exact cr_all hc
theorem sumK (K : PySem.W.Frag) (hc : X.calm = true) (h : X.K = K := by rfl) : CallR X (.builtin "sum") (rSum K) := by subst h; exact cr_sum hc
theorem slL (K : PySem.W.Frag) (h : X.K = K := by rfl) : SlR X (rSlL K) := by subst h; exact sl_list
theorem inK (K : PySem.W.Frag) (h : X.K = K := by rfl) : OpR X (compareOp .In) (rIn K false) := by subst h; exact op_in_seq
theorem notInK (K : PySem.W.Frag) (h : X.K = K := by rfl) : OpR X (compareOp .NotIn) (rIn K true) := by subst h; exact op_notIn_seq
theorem eqDK (K : PySem.W.Frag) (hu : X.A.units + 64 < cLine) (h : X.K = K := by rfl) : OpR X (compareOp .Eq) (rEqD K) := by subst h; exact op_eqD hu
theorem neDK (K : PySem.W.Frag) (hu : X.A.units + 64 < cLine) (h : X.K = K := by rfl) : OpR X (compareOp .NotEq) (rNeD K) := by subst h; exact op_neD hu
end
/-- isinstance(x, T), T a built-in type -/
theorem isi_ty {K : PySem.W.Frag} {H : Hp} {x : V} {t T : String} {b : Bool} {Q : VK} (ty : TyX K H x (.type t)) (h : kitB t T = some b) (q : Q (.bl b) H) : rIsi K [x, .ty T] H Q :=
  ⟨x, .ty T, .type t, .type T, b, rfl, .ty T, ty, kit_ty h, q⟩
end Ww
/-! all(test for x in xs) over a list of whole numbers, by a generator expression; the def's table of code objects may grow -/
namespace Ww
open PySem PySem.Spec PyProof.Rows L2 GxR
/-- the element: a test of the number z -/
def EltI (prog : Program) (w : World) (scope : Scope) (x : Str) (elt : Expr) (pb : Int → Bool) : Prop :=
  ∀ (cenv : Env) (A' : Around) (E' : Value → Shared → Prop) (z : Int) (t : Tok) (s₂ : Shared) (m₂ : Str → Option Value), cenv.scope = scope → s₂.heap.Ns cenv.locals m₂ → m₂ x = some (.int z t) →
    wpAny (model prog w) A' (eval elt cenv) (fun y s₃ => y = .bool (pb z) ∧ Keeps s₂ s₃) E' s₂
/-- x & 1 == 1 -/
theorem elt_odd {prog : Program} {w : World} {scope : Scope} {x : Str} {j k : Nat} {p1 p2 p3 p4 p5 : Pos} (hk : scope.kind = .function) (hl : scope.names.lookup x = some .local) (hd : (x == ("__debug__" : Str)) = false := by decide) :
    EltI prog w scope x (.Compare (.BinOp (.Name x p1) .BitAnd (.Constant (.int 1) j p2) p3) [.Eq] [.Constant (.int 1) k p4] p5) (fun z => decide (z % 2 = 1)) := by
  intro cenv A' E' z t s₂ m₂ hs hn hm
  refine wpAny_Compare1 ?_
  refine wpAny_BinOp ?_
  refine wpAny_Name (wpAny_loadName_local (by rw [hs]; exact hk) (show cenv.scope.names.lookup x = some .local by rw [hs]; exact hl) hn hm ?_) hd
  refine wpAny_Constant_int ?_
  refine and_int ?_
  refine wpAny_Constant_int ?_
  refine eq_int ?_
  have e : Builtin.bitAnd z 1 = z % 2 := PySem.W.kbt_mask z 1
  refine ⟨?_, keeps_tok _ _⟩
  rw [e]
  rfl
def trI (pb : Int → Bool) (l : List Int) (j : Nat) : Bool := match l[j]? with
  | some b => pb b
  | none => false
theorem trI_some {pb : Int → Bool} {l : List Int} {j : Nat} {b : Int} (h : l[j]? = some b) : trI pb l j = pb b := by
  unfold trI
  rw [h]
theorem all_trI (l : List Int) (pb : Int → Bool) : (List.range l.length).all (trI pb l) = l.all pb := by
  rw [Bool.eq_iff_iff, List.all_eq_true, List.all_eq_true]
  constructor
  · intro h b hb
    obtain ⟨j, hj, e⟩ := List.getElem_of_mem hb
    have q := h j (List.mem_range.mpr hj)
    rw [trI_some (List.getElem?_eq_getElem hj), e] at q
    exact q
  · intro h j hj
    have hj' := List.mem_range.mp hj
    rw [trI_some (List.getElem?_eq_getElem hj')]
    exact h _ (List.getElem_mem hj')
section
variable {X : Cx} {pins : List (Addr × Obj)} {σ : L2.St} {H : Hp} {s : Shared}
def ReadyI (X : Cx) (pins : List (Addr × Obj)) (σ : L2.St) (H1 : Hp) (P : Addr) (ns : List Int) (pb : Int → Bool) (g : Addr) (s5 : Shared) : Prop :=
  ∃ (fp wr : List Addr) (G : Array GenState → Array GenState → Prop) (F : Nat → Value → Prop) (St : Nat → Shared → Prop),
    WalksS X.prog X.w X.A.in1 g fp wr G ns.length F St ∧ St 0 s5 ∧
    TruthOf X.prog X.w X.A.in1 F (trI pb ns) ∧
    ∀ s', Moved wr G s5 s' → ∃ H2, Tabbed P H1 H2 ∧ Inv X pins σ H2 s'
theorem gen_int {c P : Addr} {elt iter : Expr} {x : Str} {px gpos : Pos} {scope : Scope} {pb : Int → Bool} {te : TE} {k : Nat} {Q' : Value → Shared → Prop} {R : List Int → Hp → Prop}
    (hr : Room k X.A) (TB : TabB X.base X.mg c P) (hcode : X.env.code = .ref c) (S : GenS X.env scope x) (hi : PE X iter te) (hel : EltI X.prog X.w scope x elt pb)
    (hs : ∀ v, genFold iter X.env v = pure v) (I : Inv X pins σ H s) (h : te σ H fun v H1 => ∃ (yl : Addr) (ns : List Int), v = .ref yl ∧ SqL X.K H1 yl (ns.map V.int) ∧ TabG H1 P ∧ R ns H1)
    (hQ : ∀ ns H1 g s5, R ns H1 → ReadyI X pins σ H1 P ns pb g s5 → Q' (.ref g) s5) :
    wpAny (model X.prog X.w) X.A (eval (.GeneratorExp elt [⟨.Name x px, iter, [], 0⟩] scope gpos) X.env) Q' X.xe s := by
  refine wpAny_GeneratorExp_walksQ hr.hd S.co (closure_ok S.free) S.cell S.dot S.loc S.kind (by have := hr.dp; omega) ?_ hs
  refine thn (hi.run pins s σ H _ I h) fun xv s1 ⟨v, H1, I1, r1, q1⟩ => ?_
  obtain ⟨yl, ns, rfl, hyl, ⟨ps, hP, ht⟩, q1⟩ := q1
  obtain rfl : xv = Value.ref yl := r1
  obtain ⟨its, rv, hl, hz⟩ := I1.list hyl
  have hIL := hl.isList
  have hlen : its.length = ns.length := by rw [← rv.length, List.length_map]
  have hat : ∀ (i : Nat) (v : Value), its.toArray[i]? = some v → ∃ (z : Int) (u : Tok), ns[i]? = some z ∧ v = .int z u := fun i v hv => by
    have hv2 : its[i]? = some v := by simpa using hv
    have hi2 : i < its.length := (List.getElem?_eq_some_iff.mp hv2).1
    obtain ⟨a, ha⟩ : ∃ a, ns[i]? = some a := ⟨ns[i]'(by omega), List.getElem?_eq_getElem _⟩
    have hb : (ns.map V.int)[i]? = some (V.int a) := by rw [List.getElem?_map, ha] <;> rfl
    obtain ⟨u, hu, ru⟩ := rv.get hb
    rw [hv2] at hu
    cases hu
    obtain ⟨t, e⟩ := (show ∃ t, v = Value.int a t from ru)
    exact ⟨a, t, ha, e⟩
  refine wpAny_pyIter_list hIL ?_
  generalize ho : ({ cls := .type "list_iterator", data := .fields #[.ref yl, .int 0 0] } : Obj) = o
  have hitr : (s1.heap.push o).IsListIter s1.heap.objs.size yl 0 := by
    subst ho
    exact ⟨_, Heap.get?_push_size _ rfl, rfl, rfl⟩
  have hylt : yl < s1.heap.objs.size := by
    obtain ⟨_, e, _⟩ := _root_.id hIL
    exact Heap.lt_size e
  have hPs : s1.heap.get? P = some { cls := .none, data := .fields ps } := I1.hok P _ hP
  have hPlt : P < s1.heap.objs.size := Heap.lt_size hPs
  have hP2 : (s1.heap.push o).get? P = some { cls := .none, data := .fields ps } := Heap.get?_push_of_some _ hPs
  have cd : PySem.W.CodeHd (s1.heap.push o) c P := TB.code.keeps fun b u e => Heap.get?_push_of_some _ (I1.bk b u e)
  have lim2 : (s1.heap.push o).NoLimit := I1.nolimit.push o
  have cont : ∀ (code : Value) (h3 : Heap) (tk : Nat) (ps' : Array Value), Heap.ExtBut P (s1.heap.push o) h3 → (s1.heap.push o).objs.size ≤ h3.objs.size → h3.get? P = some { cls := .none, data := .fields ps' } → (∃ more, ps' = ps ++ more) → TriplesOk ps'.toList →
      wpAny (model X.prog X.w) X.A (builtinsFor X.env.globals X.env.builtins) (fun bi s₄ =>
        ∃ Ia fp wr n₀ Pf St₀ pz F, Value.ref s1.heap.objs.size = .ref Ia ∧ (∀ A' : Around, A'.handled = none → Walks X.prog X.w A' Ia fp wr n₀ Pf St₀) ∧ St₀ 0 s₄.heap ∧ (∀ b ∈ fp, b < s₄.heap.objs.size) ∧ s₄.heap.NoLimit ∧ cStatics ∉ wr ∧
          (∀ href : Heap, (∀ b o, s₄.heap.get? b = some o → href.get? b = some o) →
            QuietGen X.prog X.w (genEnv scope (cloFrom X.env.cells scope.names []) s₄.heap.objs.size code bi X.env) x [] elt (List.range s₄.heap.objs.size) wr Pf pz F href) ∧
          (∀ a h₅ tk gs, gs.bare = true → s₄.heap.objs.size < a → h₅.objs.size = a + 1 → (∀ b o, s₄.heap.get? b = some o → h₅.get? b = some o) →
            WalksS X.prog X.w X.A.in4 a (a :: s₄.heap.objs.size :: List.range s₄.heap.objs.size) (s₄.heap.objs.size :: wr) (GenOnlyQ s₄.gens.size) (passing pz n₀ 0).length
              (fun j y => ∃ i, (passing pz n₀ 0)[j]? = some i ∧ F i y) (GenAt X.prog X.w X.A.in4 a s₄.gens.size s₄.heap.objs.size (List.range s₄.heap.objs.size) wr pz n₀ F) →
            GenAt X.prog X.w X.A.in4 a s₄.gens.size s₄.heap.objs.size (List.range s₄.heap.objs.size) wr pz n₀ F 0 { s₄ with gens := s₄.gens.push gs, toks := tk, heap := h₅ } →
            Q' (.ref a) { s₄ with gens := s₄.gens.push gs, toks := tk, heap := h₅ })) X.xe { s1 with heap := h3, toks := tk } := by
    intro code h3 tk ps' hx hsz hP3 hmore ht3
    obtain ⟨bm, ob, e1, e2, e3, e4, e5, e6, e7, e8⟩ := TB.bm
    have hcP : cStatics ≠ P := fun e => by
      obtain ⟨_, hns, _⟩ := I1.nolimit
      obtain ⟨o', es, ep, ho, hd, _⟩ := hns
      rw [e, hPs] at ho
      cases ho
      cases hd
    have hcl : cStatics < s1.heap.objs.size := let ⟨_, hns, _⟩ := I1.nolimit; hns.lt
    have sz2 : (s1.heap.push o).objs.size = s1.heap.objs.size + 1 := Heap.size_push ..
    have keep3 : ∀ b u, b ≠ P → s1.heap.get? b = some u → h3.get? b = some u := fun b u hb e => hx b u hb (Heap.get?_push_of_some _ e)
    refine wpAny_builtinsFor (m := X.mg) (by rw [I1.ok.glob]; exact ((I1.mod.glob.keeps I1.bk).push o).extBut hx TB.gP) e1 e2 (keep3 _ _ e4 (I1.bk _ _ e5)) e6 e7 e8 ?_
    have hylP : yl ≠ P := fun z => by
      obtain ⟨_, e, hc1, _, hd1⟩ := _root_.id hIL
      rw [z, hPs] at e
      cases e
      cases hd1
    have hIL3 : h3.IsList yl its.toArray := by
      obtain ⟨ob, e, r⟩ := _root_.id hIL
      exact ⟨ob, keep3 _ _ hylP e, r⟩
    have hItr3 : h3.IsListIter s1.heap.objs.size yl 0 := hitr.at fun u e => hx _ u (Nat.ne_of_gt hPlt) e
    refine ⟨s1.heap.objs.size, [s1.heap.objs.size, yl], [s1.heap.objs.size], its.toArray.size, (fun i v => its.toArray[i]? = some v), (fun i h => h.IsListIter s1.heap.objs.size yl i ∧ h.IsList yl its.toArray), (fun _ => true),
      (fun i y => ∃ z : Int, ns[i]? = some z ∧ y = .bool (pb z)), rfl, (fun A' hA => Walks.list hA _ _ (Nat.ne_of_lt hylt) _), ⟨hItr3, hIL3⟩, ?_, lim2.extBut hx hcP, ?_, ?_, ?_⟩
    · intro b hb
      rcases List.mem_cons.mp hb with z | z
      · rw [z]
        show s1.heap.objs.size < h3.objs.size
        omega
      · rcases List.mem_cons.mp z with z | z
        · rw [z]
          have e9 : s1.heap.objs.size ≤ h3.objs.size := by omega
          exact Nat.lt_of_lt_of_le hylt e9
        · cases z
    · intro z
      rcases List.mem_cons.mp z with z | z
      · exact Nat.ne_of_lt hcl z
      · cases z
    · intro href hhref
      refine ⟨fun A' E' i v s₂ m₂ hA hPv hn hm hk => ?_, fun A' E' i v s₂ m₂ hA hPv hp hn hm hk => ?_⟩
      · simp only [List.forIn_nil]
        exact wpAny_pure ⟨rfl, keeps_refl _⟩
      · obtain ⟨a, u, ha, rfl⟩ := hat i v hPv
        exact wpAny_mono (hel _ A' E' a u s₂ m₂ rfl hn hm) (fun y s3 r => ⟨⟨a, ha, r.1⟩, r.2⟩) fun _ _ e => e
    · intro g h5 tk5 gs hgb hag hsz5 hk5 W5 hgat
      simp only [GxR.passing_true, List.length_range] at W5
      have hn5 : its.toArray.size = ns.length := by rw [List.size_toArray, hlen]
      rw [hn5] at W5 hgat
      refine hQ ns H1 g _ q1 ⟨_, _, _, _, _, W5.in4_1, hgat, ?_, fun s' hm => ?_⟩
      · intro j y sj Qj Ej hy hQj
        obtain ⟨i, hij, z, hzz, rfl⟩ := hy
        obtain ⟨hj, ej⟩ := List.getElem?_eq_some_iff.mp hij
        rw [List.getElem_range] at ej
        subst ej
        have hQ2 : Qj (trI pb ns j) sj := hQj
        rw [trI_some hzz] at hQ2
        exact wpAny_truthy_bool hQ2
      · obtain ⟨more, em⟩ := hmore
        have nwr : ∀ b u, s1.heap.get? b = some u → b ∉ h3.objs.size :: [s1.heap.objs.size] := fun b u e hb => by
          have hl := Heap.lt_size e
          rcases List.mem_cons.mp hb with z | z
          · rw [z] at hl
            have h9 : (h3.objs.size : Nat) < s1.heap.objs.size := hl
            omega
          · rcases List.mem_cons.mp z with z | z
            · rw [z] at hl
              exact Nat.lt_irrefl _ hl
            · cases z
        have J := inv_tab (more := more) (h' := s'.heap) (g' := s'.gens) (d' := s'.drawn) (t' := s'.toks) I1 hP (fun b u hb e => hm.heap b u (nwr b u e) (hk5 b u (keep3 b u hb e)))
          (by rw [← em]; exact hm.heap P _ (nwr P _ hPs) (hk5 P _ hP3)) (AllBare.movedS (I1.bare.push hgb) hm)
        rw [sh_eta s1 s' hm.os] at J
        refine ⟨upd H1 P (.tbl (ps ++ more)), ⟨⟨ps ++ more, upd_same, by rw [← em]; exact ht3⟩, fun b hb => upd_ne hb⟩, J⟩
  refine ⟨lim2, ?_⟩
  cases hf : codeAmong gpos ps.toList with
  | none =>
    refine wpAny_genexprCodeX hcode (cd.code hP2 ht) (cd.tab hP2) hf fun c' h' tk hx hge hlt hco' _ htab' _ => ?_
    obtain ⟨o1, vs, f1, tf, fl, tg, inF, tx, tt, op, _, _, _, _, _, _, _, _, _, htr, _⟩ := hco'
    exact cont _ h' tk _ hx (Nat.le_trans hge (Nat.le_of_lt hlt)) htab'.2 ⟨_, rfl⟩ htr
  | some cv =>
    refine wpAny_genexprCode_hit hcode (cd.code hP2 ht) hf ?_
    exact cont cv (s1.heap.push o) s1.toks ps (Heap.ExtBut.refl _ _) (Nat.le_refl _) hP2 ⟨#[], by simp⟩ ht
/-- what is left of the heap when a table has grown -/
theorem same_tab {P : Addr} {H H' : Hp} (h : TabG H P) (t : Tabbed P H H') : Same H H' := fun b o e => by
  obtain ⟨ps, hP, _⟩ := h
  obtain ⟨⟨ps', hP', ht'⟩, hk⟩ := t
  by_cases c : b = P
  · subst c
    rw [hP] at e
    cases e
    exact ⟨ps', hP', fun _ => ht'⟩
  · rw [hk b c]
    exact .self e
theorem Same.tab {P : Addr} {H H' : Hp} (s : Same H H') (h : TabG H P) : TabG H' P := by
  obtain ⟨ps, hP, ht⟩ := h
  obtain ⟨ps', hP', ht'⟩ := s _ _ hP
  exact ⟨ps', hP', ht' ht⟩
def tAllI (K : PySem.W.Frag) (P : Addr) (pb : Int → Bool) (te : TE) : TE := fun σ H Q => te σ H fun v H1 => ∃ (yl : Addr) (ns : List Int), v = .ref yl ∧ SqL K H1 yl (ns.map V.int) ∧ TabG H1 P ∧ (TabG H1 P ∧ ∀ H2, Same H1 H2 → Q (.bl (ns.all pb)) H2)
theorem pe_allI {c P : Addr} {elt iter : Expr} {x : Str} {px p pos gpos : Pos} {scope : Scope} {pb : Int → Bool} {te : TE} {k : Nat}
    (hr : Room k X.A) (hg : Gl X "all") (hm : X.mg "all" = none) (TB : TabB X.base X.mg c P) (hcode : X.env.code = .ref c) (S : GenS X.env scope x) (hi : PE X iter te) (hel : EltI X.prog X.w scope x elt pb)
    (hs : ∀ v, genFold iter X.env v = pure v) (hb : bootBuiltins "all" = some (.builtin "all") := by decide +kernel)
    (he : starEach [.GeneratorExp elt [⟨.Name x px, iter, [], 0⟩] scope gpos] X.env = (false, eval (.GeneratorExp elt [⟨.Name x px, iter, [], 0⟩] scope gpos) X.env) :: starEach [] X.env := by rfl) :
    PE X (.Call (.Name "all" p) [.GeneratorExp elt [⟨.Name x px, iter, [], 0⟩] scope gpos] [] pos) (tAllI X.K P pb te) := by
  refine ⟨fun pins s σ H Q I h => ?_⟩
  refine wpAny_Call_Name_kw (ld_blt I hg hm hb ?_)
  refine PyProof.Rows.callWith_builtin1 ?_ he (by rfl)
  rw [he]
  show wpAny _ _ (spliced ((false, eval (.GeneratorExp elt [⟨.Name x px, iter, [], 0⟩] scope gpos) X.env) :: backTo pos (starEach [] X.env))) _ _ s
  refine Calls.spliced_cons (gen_int (R := fun ns H1 => TabG H1 P ∧ ∀ H2, Same H1 H2 → Q (.bl (ns.all pb)) H2) hr TB hcode S hi hel hs I h fun ns H1 g s5 hR hG => ?_)
  obtain ⟨fp, wr, G, F, St, W, hst, htr, hI⟩ := hG
  refine Calls.spliced_nil ?_
  refine call_all_walkS (W.self 0 _ _ _ hst ⟨g, fp, wr, G, _, F, St, _, rfl, W, hst, htr, fun s' hmv => ?_⟩)
  obtain ⟨H2, hT, J⟩ := hI s' hmv
  refine ⟨.bl _, H2, J, rfl, ?_⟩
  rw [all_trI ns pb]
  exact hR.2 H2 (same_tab hR.1 hT)
end
end Ww
/-! ### the end of a law with one def that holds a generator expression -/
namespace Ww
open PySem PySem.Spec PyProof.Rows L2
theorem walk_tab {l : PySem.W.OpenLaw} {n k : Nat} {q : Program} {loose : List Str} {XP : (Str → Option Value) → Heap → Prop} {YP : World → Heap → Prop} {d : DefRec} {K : Params → PySem.W.Frag} {CX : World → CXT} {x : Str} {nm : Str}
    (hn : l.most = some n) (hn2 : n ≤ sizeLine) (hdf : d.params.defaults = []) (hr : Room k callerA) (hrec : ((recsOf q).any fun e => e.name == nm) = true) (hY : ∀ (w : World) (h : Heap), YP w h → (K w.params).In h)
    (F : ∀ (w : World) (mg : Str → Option Value) (fa : Addr) (h : Heap), YP w h → (K w.params).In h → h.Ns mainGlobals mg → mg d.name = some (.ref fa) → (∀ fo, mg nm = some (.ref fo) → LamX.OwnTab (K w.params) fo h) → LamX.LawAtS l w (K w.params) (CX w) k n x mg fa h)
    (hCX : ∀ (w : World) (H : Hp) (s : Shared) (e : Value) (s' : Shared), CX w [] H s (fun _ _ _ => False) e s' → False) :
    PySem.W.WalkO q loose XP YP l.row.toRowW d [] (fun f vs => PySem.call f vs) := by
  refine Att.attach_callB hn hdf fun w s₀ s₁ mg mb fa o pm cd doc a vs ns G Y ho hd hcd hmg hobj hints hlen hbits hg => ?_
  have KX := hY w _ Y
  have own : ∀ fo, mg nm = some (.ref fo) → LamX.OwnTab (K w.params) fo s₁.heap := fun fo hfo c P o1 fd1 e dd vs1 sl k1 k2 k3 k4 k5 => by
    obtain ⟨dL, hm, hn1⟩ := List.any_eq_true.mp hrec
    have hn2 : dL.name = nm := beq_iff_eq.mp hn1
    obtain ⟨a', o', fd', c', P', h1, h2, h3, h4, h5, h6⟩ := G.T.tab dL hm
    rw [hn2, hfo] at h1
    cases h1
    have g1 := KX _ _ k1
    rw [g1] at h2
    cases h2
    rw [k2] at h3
    cases h3
    rw [k3] at h4
    cases h4
    obtain ⟨⟨oc, vc, e1, _, e3, e4⟩, hP⟩ := h6
    have g2 := KX _ _ k4
    rw [g2] at e1
    cases e1
    cases e3
    rw [k5] at e4
    cases e4
    exact hP
  obtain ⟨fd, cs, sp, hT, nT, C, hb, hsp, hF⟩ := F w mg fa _ Y KX G.T.g hmg own
  exact LamX.law_callTs KX G.T.g G.T.b G.T.builtins G.T.nolimit hg hT nT C G.T.bmain hobj hints (Nat.le_trans hlen hn2) hr hF hb (fun H hH hS => hsp H a ns hlen hbits hH hS) fun H e s' => hCX w H s₁ e s'
end Ww
/-! a list comprehension whose element may raise (an own error, its context None): the exception leaves it -/
namespace Ww
open PySem PySem.Spec PyProof.Rows L2
theorem hid_get {B : Heap} {C b : Addr} {o : Obj} (e : B.get? b = some o) (h : b ≠ C) : (PySem.W.hideAll B [C]).get? b = some o := PySem.W.hideAll_get _ e (by simp [h])
theorem hid_none {B : Heap} {C b : Addr} (e : B.get? b = none) : (PySem.W.hideAll B [C]).get? b = none := by
  cases q : (PySem.W.hideAll B [C]).get? b with
  | none => rfl
  | some o =>
    have := PySem.W.of_hideAll _ q
    rw [e] at this
    cases this
theorem hid_self {B : Heap} {C : Addr} : (PySem.W.hideAll B [C]).get? C = none := PySem.W.hideAll_none _ List.mem_cons_self
theorem hid_ne {B : Heap} {C b : Addr} {o : Obj} (e : (PySem.W.hideAll B [C]).get? b = some o) : b ≠ C := by
  rintro rfl
  rw [hid_self] at e
  cases e
theorem frames_but {h h' B : Heap} {C : Addr} {oC : Obj} (hC : B.get? C = some oC) (sb : ∀ b, b ≠ C → h'.get? b = h.get? b) : ∀ {l : List Env}, h.FunFrames B l → h'.FunFrames (PySem.W.hideAll B [C]) l
  | [], _ => trivial
  | env :: rest, ⟨hk, ⟨L, o, hf, hn, ho, hd⟩, hr⟩ => by
    have hL : L ≠ C := by
      rintro rfl
      rw [hn] at hC
      cases hC
    exact ⟨hk, ⟨L, o, hf, hid_none hn, (sb L hL).trans ho, hd⟩, frames_but hC sb hr⟩
theorem noteFrame_eq {e : Value} {env env' : Env} (h : env.frame = env'.frame) : noteFrame e env = noteFrame e env' := by
  unfold noteFrame PySem.frameOf
  rw [h]
/-- what a comprehension's block leaves -/
def compPostE (M : Model) (A : Around) (E : Value → Shared → Prop) (Q : Value → Shared → Prop) (acc : Value) (cenv : Env) (r : Result) (s' : Shared) : Prop :=
  match r with
  | .ok _ => ∃ m, s'.heap.Ns cenv.locals m ∧ ∀ h', Heap.SameBut cenv.locals s'.heap h' → Q acc { s' with heap := h' }
  | .error x => ∃ m, s'.heap.Ns cenv.locals m ∧ ∀ h', Heap.SameBut cenv.locals s'.heap h' → wpAny M A (passOn "comprehension.variables-let-go" x cenv : Sem Value) (fun _ _ => False) E { s' with heap := h' }
section
variable {M : Model} {A : Around} {E : Value → Shared → Prop} {s : Shared} {env : Env}
theorem comprehension_freeX {e : Expr} {scope : Scope} {pos : Pos} {newAcc first : Sem Value} {g : Comprehension} {gs : List Comprehension} {cl : List (Str × Addr)}
    {Q : Value → Shared → Prop}
    (hcl : clausesOf e = g :: gs) (hs : ∀ x, foldedSetIterable g.iter env x = pure x) (hclos : closureFor scope env = pure cl)
    (hkind : scope.kind = .function) (hnames : ∀ x ∈ scope.names, x.2 = .local → scope.names.lookup x.1 = some .local)
    (h : wpAny M A first (fun x s₁ => wpAny M A (pyIter x) (fun it s₂ => wpAny M A newAcc (fun acc s₃ =>
      wpAny M A (newFunctionEnv scope env.globals cl [] env.qual none .none (some env)) (fun cenv s₄ =>
        codeAny M A (.compStart e 0 it acc { cenv with scope := relabel scope env }) (compPostE M A E Q acc { cenv with scope := relabel scope env }) s₄) E s₃) E s₂) E s₁) E s) :
    wpAny M A (comprehension e scope env pos newAcc false first none) Q E s := by
  unfold comprehension
  rw [hclos, hcl]
  refine wpAny_bind (wpAny_mono h (fun x s₁ h₁ => wpAny_bind (wpAny_standAt (wpAny_bind (wpAny_of_eq (hs x) (wpAny_bind (wpAny_holding (wpAny_mono h₁ (fun it s₂ h₂ =>
    wpAny_standIf (wpAny_bind (wpAny_mono h₂ (fun acc s₃ h₃ => wpAny_bind (wpAny_pure (wpAny_bind (wpAny_mono h₃ (fun cenv s₄ h₄ => ?_) fun _ _ h' => h')))) fun _ _ h' => h')))
      fun _ _ h' => h'))))))) fun _ _ h' => h')
  dsimp only
  have hv : ∀ x ∈ (scope.names.filter fun x => (x.2 == .local || x.2 == .cell) && x.1 != (".0" : Str)).reverse, x.2 = .local →
      Env.kindOf { cenv with scope := relabel scope env } x.1 = some .local := fun x hx hl => lookup_relabel_local (hnames x (List.mem_filter.mp (List.mem_reverse.mp hx)).1 hl)
  refine wpAny_holding (wpAny_bind (wpAny_attempt (wpAny_holding (wpAny_run (codeAny_mono h₄ fun r s' hr => ?_)))))
  cases r with
  | ok f =>
    obtain ⟨m, hn, hr⟩ := hr
    exact wpAny_bind (wpAny_holding (wpAny_comp_letGo (cenv := { cenv with scope := relabel scope env }) hkind _ s' m hv hn fun h' m' _ hs' => wpAny_pure (hr h' hs')))
  | error x =>
    obtain ⟨m, hn, hr⟩ := hr
    exact wpAny_bind (wpAny_holding (wpAny_comp_letGo (cenv := { cenv with scope := relabel scope env }) hkind _ s' m hv hn fun h' m' _ hs' => wpAny_mono (hr h' hs') (fun _ _ f => f.elim) fun _ _ y => y))
end
section
variable {X : Cx} {pins : List (Addr × Obj)} {σ : L2.St} {H0 H : Hp} {s0 s s' : Shared} {W : WX} {E : XK}
/-- the exception of a call within the block: noted, the block's names let go, out into the def -/
theorem blk_out (tk : L2N.Takes X W) (hW : ∀ cls d σ H, E cls d H → W cls d σ H) (hs : X.stack = X.env :: X.outer) (hf : X.env.frame = some X.env.locals) (I0 : Inv X pins σ H0 s0) {ce : Env} {fp : List Addr} (hce : ce.frame = X.env.frame) (hCl : s0.heap.objs.size ≤ ce.locals)
    (hch : ∀ b ∈ fp, (b ∈ X.ex ∨ X.s_0.heap.objs.size ≤ b) ∧ b ≠ X.env.locals ∧ (∀ x c, X.env.cells.lookup x = some c → c ≠ b) ∧ ∀ p ∈ X.pn ++ pins, p.1 ≠ b)
    (os : s.os = s0.os) (bs : Un (frs X.stack) fp H0 H s0.heap s.heap) (hok : HOk X.prog X.w H s.heap) (bare : AllBare s.gens) (free : H ce.locals = none) (loc : ∃ m, s.heap.Ns ce.locals m) {Q : Value → Shared → Prop} {acc : Value} {u : Value}
    (c : L2N.CX X.prog X.w X.stack H s E u s') : notedBy (model X.prog X.w) X.A ce (fun e s' => compPostE (model X.prog X.w) X.A X.xe Q acc ce (.error e) s') u s' := by
  obtain ⟨a, B, H', cls, d, rfl, fl, hokB, ub, na, os', ag, hE⟩ := c
  have hfr : X.A.frames = some (X.env :: X.outer) := by rw [I0.ok.frames, hs]
  obtain ⟨m, oC, esC, epC, eC, rC⟩ := loc
  generalize hCC : ce.locals = C at *
  have hC0 : s0.heap.get? C = none := by
    cases q : s0.heap.get? C with
    | none => rfl
    | some o => exact absurd (Nat.lt_of_lt_of_le (Heap.lt_size q) hCl) (Nat.lt_irrefl _)
  have nCf : C ∉ frs X.stack := fun hm => by
    rcases List.mem_cons.mp (I0.stkSub C hm) with z | z
    · have h1 := I0.lt
      rw [← z] at h1
      exact absurd (Nat.lt_of_lt_of_le h1 hCl) (Nat.lt_irrefl _)
    · exact I0.nofs hCl z
  have eCB : B.get? C = some oC := ub.keep C oC eC free nCf
  have nCH' : H' C = none := ub.free C oC eC free
  show wpAny _ _ (noteFrame (.ref a) ce) _ _ s'
  rw [noteFrame_eq hce]
  rw [hs] at fl
  refine PXN.looks_onZ L2N.Zn.steady hfr hf fl fun h1 hh1 up1 => ?_
  obtain ⟨g1, g2, g3, oe, vs, T, oT, ts, he, hz, hd, hv1, hnT, hTe, hT, hdT, h3⟩ := hh1
  have naC : a ≠ C := by
    rintro rfl
    rw [g2] at eCB
    cases eCB
  have nTC : T ≠ C := by
    rintro rfl
    rw [hnT] at eCB
    cases eCB
  refine ⟨m, ?_, fun h2 sb => ?_⟩
  · rw [hCC]
    exact ⟨oC, esC, epC, g1 _ _ eCB, rC⟩
  rw [hCC] at sb
  have he2 : h2.get? a = some oe := (sb.2 a naC).trans he
  have hT2 : h2.get? T = some oT := (sb.2 T nTC).trans hT
  -- the ground without the block's names
  have st2 : (PySem.W.hideAll B [C]).StaysIn h2 := fun b o e => (sb.2 b (hid_ne e)).trans (g1 b o (PySem.W.of_hideAll _ e))
  have ff2 : h2.FunFrames (PySem.W.hideAll B [C]) (X.env :: X.outer) := frames_but eCB sb.2 g3
  have tr2 : HandSPX.TracedZ h2 (PySem.W.hideAll B [C]) a (L2N.Zn cls d) (rawInt X.env.locals) := ⟨oe, vs, T, oT, ts, he2, hz, hd, hv1, hid_none hnT, hTe, hT2, hdT, h3⟩
  unfold PySem.passOn
  refine wpAny_bind (wpAny_field he2 hd hv1 ?_)
  rw [if_neg (show ¬ ((Value.ref T == Value.none) = true) from by simp)]
  have fin : wpAny (model X.prog X.w) X.A (setFlight (.ref a) ce.frame) (fun _ s4 => wpAny (model X.prog X.w) X.A (throw (.ref a) : Sem Value) (fun _ _ => False) X.xe s4) X.xe { s' with heap := h2 } := by
    rw [hce, hf]
    refine HandSPX.setFlight_anyZ st2 ff2 tr2 fun h4 k1 k2 k3 k4 => wpAny_throw (tk _ _ ?_)
    obtain ⟨G, q1, q2⟩ := restrict s'.heap fun b => ((PySem.W.hideAll B [C]).get? b).isSome || decide (b ∈ frs X.stack)
    have st : B.StaysIn s'.heap := fl.1
    have gB : ∀ b o, (PySem.W.hideAll B [C]).get? b = some o → G.get? b = some o := fun b o e => by
      rw [q1 b (by simp [e])]
      exact st b o (PySem.W.of_hideAll _ e)
    have gF : ∀ b, b ∈ frs X.stack → G.get? b = s'.heap.get? b := fun b hb => q1 b (by simp [hb])
    have og : ∀ b o, G.get? b = some o → s'.heap.get? b = some o ∧ (((PySem.W.hideAll B [C]).get? b).isSome = true ∨ b ∈ frs X.stack) := fun b o e => by
      cases q : (((PySem.W.hideAll B [C]).get? b).isSome || decide (b ∈ frs X.stack)) with
      | false => rw [q2 b q] at e; cases e
      | true =>
        rw [q1 b q] at e
        exact ⟨e, by simpa [Bool.or_eq_true] using q⟩
    have noC : ∀ b o, G.get? b = some o → b ≠ C := fun b o e => by
      rcases (og b o e).2 with h | h
      · obtain ⟨o', q⟩ := Option.isSome_iff_exists.mp h
        exact hid_ne q
      · rintro rfl
        exact nCf h
    have Jc : Inv X pins σ H { s with heap := PySem.W.hideAll s.heap [C] } := by
      refine I0.call' (ch := fp) os ⟨fun b o e n hb hx => hid_get (bs.keep b o e n hb hx) ?_, fun b o e n hb hx => ?_, bs.free, fun b o e hx => ?_, bs.tups, bs.frzs, bs.tbls⟩ (fun b o e => (hok b o e).stay (fun c v hc q => hid_get q ?_) (fun _ q => q) fun _ _ q => q) bare hch
      · rintro rfl
        rw [hC0] at e
        cases e
      · obtain ⟨sl, q⟩ := bs.slot b o e n hb hx
        exact ⟨sl, hid_get q (by rintro rfl; rw [hC0] at e; cases e)⟩
      · obtain ⟨o', q⟩ := bs.there b o e hx
        exact ⟨o', hid_get q (by rintro rfl; rw [hC0] at e; cases e)⟩
      · rintro rfl
        rcases hc with z | z
        · rw [← z, free] at e
          cases e
        · rw [free] at z
          cases z
    have hokc : HOk X.prog X.w H' (PySem.W.hideAll B [C]) := fun b o e => (hokB b o e).stay (fun c v hc q => hid_get q (by
      rintro rfl
      rcases hc with z | z
      · rw [← z, nCH'] at e
        cases e
      · rw [nCH'] at z
        cases z)) (fun _ q => q) fun _ _ q => q
    have JI : Inv X pins σ H' { s with heap := G, gens := s'.gens, drawn := s'.drawn, toks := s'.toks } := by
      refine Inv.call (s := { s with heap := PySem.W.hideAll s.heap [C] }) (ch := []) Jc ⟨fun b o e n hb _ => gB b o (hid_get (ub.keep b o (PySem.W.of_hideAll _ e) n hb) (hid_ne e)), fun b o e n hb _ => ?_, fun b o e n _ => ub.free b o (PySem.W.of_hideAll _ e) n, fun b o e _ => ?_, ub.tups, ub.frzs, ub.tbls⟩ (hokc.kept gB) ag (fun _ z => nomatch z)
      · obtain ⟨sl, q⟩ := ub.slot b o (PySem.W.of_hideAll _ e) hb
        exact ⟨sl, by rw [gF b hb]; exact q⟩
      · by_cases hb : b ∈ frs X.stack
        · obtain ⟨sl, q⟩ := ub.slot b o (PySem.W.of_hideAll _ e) hb
          exact ⟨_, by rw [gF b hb]; exact q⟩
        · obtain ⟨o', q⟩ := ub.there b o (PySem.W.of_hideAll _ e) hb
          exact ⟨o', gB b o' (hid_get q (hid_ne e))⟩
    refine ⟨a, PySem.W.hideAll B [C], _, pins, σ, H', cls, d, rfl, JI, fun b o e hb => ?_, fun b o e hn => ?_, .inr (.inr (by rw [hs]; exact ⟨k1, hid_none g2, k2, k3⟩)), na, os', ag, hW _ _ _ _ hE⟩
    · obtain ⟨e', h⟩ := og b o e
      rcases h with h | h
      · obtain ⟨o', q⟩ := Option.isSome_iff_exists.mp h
        have z := st b o' (PySem.W.of_hideAll _ q)
        rw [e'] at z; cases z
        exact q
      · exact absurd h hb
    · obtain ⟨sl, e1⟩ := up1 b o (og b o e).1 hn
      have e2 := (sb.2 b (noC b o e)).trans e1
      obtain ⟨sl2, e3⟩ := k4 b _ e2 hn
      exact ⟨sl2, e3⟩
  first
    | exact wpAny_bind (wpAny_pure (wpAny_bind fin))
    | exact wpAny_bind fin
/-- another wish of exceptions -/
theorem inv_xe {X : Cx} {pins : List (Addr × Obj)} {σ : L2.St} {H : Hp} {s : Shared} {xe : Value → Shared → Prop} (I : Inv X pins σ H s) : Inv { X with xe := xe } pins σ H s :=
  ⟨⟨I.ok.mod, I.ok.kind, I.ok.glob, I.ok.blt, I.ok.above, I.ok.inj, I.ok.has, I.ok.cab, I.ok.hd, I.ok.frames, I.ok.stk, I.ok.exf, I.ok.bs, I.ok.bsz, I.ok.noex, I.ok.exfs, I.ok.funs, I.ok.frf⟩, I.os, I.bare, I.base, I.loc, I.cell, I.free, I.freeC, I.pin, I.hok, I.len⟩
theorem pe_lcX {elt tg iter : Expr} {ifs : List Expr} {scope : Scope} {own : List (Str × Nat)} {pos : Pos} {wi : TI} {g : TG} {tt : TT} {te : TE} (tk : L2N.Takes X W) (hW : ∀ cls d σ H, E cls d H → W cls d σ H) (hst : X.stack = X.env :: X.outer) (hfl : X.env.frame = some X.env.locals)
    (hc : X.calm = true) (hN : X.N.Nodup) (hi : PI X tg iter wi) (ok : BlkOk X.N X.env.scope scope own)
    (hg : ∀ (s : Shared) (H : Hp) (C : Addr) (cl : List (Str × Addr)) (fp : List Addr), PG (X.blk s H scope (compEnvC scope cl C X.env) fp) tg g) (ht : ∀ (s : Shared) (H : Hp) (C : Addr) (cl : List (Str × Addr)) (fp : List Addr), PTs (X.blk s H scope (compEnvC scope cl C X.env) fp) ifs tt)
    (he : ∀ (s : Shared) (H : Hp) (C : Addr) (cl : List (Str × Addr)) (fp : List Addr) (xe : Value → Shared → Prop), Passes (L2N.CX X.prog X.w) { X.blk s H scope (compEnvC scope cl C X.env) fp with xe := xe } E → PE { X.blk s H scope (compEnvC scope cl C X.env) fp with xe := xe } elt te)
    (hs : ∀ x, foldedSetIterable iter X.env x = pure x := by intro _; rfl) : PE X (.ListComp elt [⟨tg, iter, ifs, 0⟩] scope pos) (tLc wi g tt te (own.map (·.2))) := by
  refine ⟨fun pins s σ H Q I h => ?_⟩
  rw [eval_ListComp]
  have hfree : ∀ y ∈ scope.names, y.2 = .free → ∃ c, X.env.cells.lookup y.1 = some c := fun y hy e => by
    rcases ok.free y hy e with k | k
    · exact I.ok.has _ (.inl k)
    · exact I.ok.has _ (.inr k)
  refine comprehension_freeX rfl hs (closure_ok hfree) ok.kind (fun y hy e => by rw [ok.uniq y hy, e])
    (thn (hi.run pins s σ H _ I h) fun xv s1 hx => thn hx fun itv s2 h2 => ?_)
  obtain ⟨it, fp, tn, J, H2, e, I2, T, st2, f2, q⟩ := h2
  subst e
  refine wpAny_newObj_type (newEnv_comp ?_) (by show 0 ≤ sizeLine; decide)
  generalize hD : s2.heap.objs.size = D
  have hDn : H2 D = none := I2.hok.fresh (Nat.le_of_eq hD)
  obtain ⟨W', ⟨m0, w0⟩, turn⟩ := q D hDn
  generalize hs3 : ({ s2 with heap := s2.heap.push { cls := .type "list", data := .seq ([] : List Value).toArray } } : Shared) = s3
  have I3 : Inv X pins σ (upd H2 D (.lst [])) s3 := by
    rw [← hs3]
    refine I2.laid (t' := s2.toks) (fun b o e => Heap.get?_push_of_some _ e) (Nat.le_of_eq hD) ⟨Nat.zero_le _, [], 0, .nil, ?_⟩
    rw [← hD]
    exact Heap.get?_push_size _ rfl
  have h3 : s3.heap = s2.heap.push { cls := .type "list", data := .seq ([] : List Value).toArray } := by rw [← hs3]
  have sz : ∀ b ∈ fp, b < s2.heap.objs.size := fun b hb => by
    obtain ⟨o, e, _⟩ := T.obj _ _ st2 b hb
    exact Heap.lt_size e
  have f3 : ∀ b ∈ fp, FpOk X pins (upd H2 D (.lst [])) b ∧ b < s3.heap.objs.size := fun b hb => by
    have hlt := sz b hb
    refine ⟨⟨?_, (f2 b hb).2⟩, by rw [h3, Heap.size_push]; exact Nat.lt_succ_of_lt hlt⟩
    rw [upd_ne (by rw [← hD]; exact Nat.ne_of_lt hlt)]
    exact (f2 b hb).1
  have st3 : tn 0 s3.heap := T.keep _ _ _ st2 fun b _ o e => by rw [h3]; exact Heap.get?_push_of_some _ e
  have I4 := block_start I3 ok hN f3
  have pg := hg s3 (upd H2 D (.lst [])) s3.heap.objs.size (cellsFrom (s3.heap.objs.size + 1) scope.names (cloFrom X.env.cells scope.names [])) fp
  have pt := ht s3 (upd H2 D (.lst [])) s3.heap.objs.size (cellsFrom (s3.heap.objs.size + 1) scope.names (cloFrom X.env.cells scope.names [])) fp
  have pe := he s3 (upd H2 D (.lst [])) s3.heap.objs.size (cellsFrom (s3.heap.objs.size + 1) scope.names (cloFrom X.env.cells scope.names [])) fp
  show codeAny _ _ (.compStart (.ListComp elt [⟨tg, iter, ifs, 0⟩] scope pos) 0 (.ref it) (.ref D) (compEnvC scope (cellsFrom (s3.heap.objs.size + 1) scope.names (cloFrom X.env.cells scope.names [])) s3.heap.objs.size X.env)) (compPostE (model X.prog X.w) X.A X.xe (EP X pins σ Q) (.ref D) (compEnvC scope (cellsFrom (s3.heap.objs.size + 1) scope.names (cloFrom X.env.cells scope.names [])) s3.heap.objs.size X.env)) { s3 with heap := pushCells (s3.heap.push { cls := .type "dict", data := .dict #[] }) scope.names }
  have nfp : ∀ b ∈ fp, (upd H2 D (.lst [])) b = none := fun b hb => (f3 b hb).1.1
  generalize hce : compEnvC scope (cellsFrom (s3.heap.objs.size + 1) scope.names (cloFrom X.env.cells scope.names [])) s3.heap.objs.size X.env = ce at I4 pg pt pe ⊢
  have cL : ce.locals = s3.heap.objs.size := by subst hce; rfl
  have cF : ce.frame = X.env.frame := by subst hce; rfl
  generalize hH3 : upd H2 D (.lst []) = H3 at I3 I4 pg pt pe w0 nfp f3
  generalize hs4 : ({ s3 with heap := pushCells (s3.heap.push { cls := .type "dict", data := .dict #[] }) scope.names } : Shared) = s4 at I4 ⊢
  have st4 : tn 0 s4.heap := T.keep _ _ _ st3 fun b _ o e => by rw [← hs4]; exact pushCells_keeps _ _ _ _ (Heap.get?_push_of_some _ e)
  have stat : ∀ {σ' : L2.St} {H' : Hp} {s' : Shared}, Inv (X.blk s3 H3 scope ce fp) [] σ' H' s' → (∀ b ∈ fp, H' b = none) → ∀ b ∈ fp, FpOk (X.blk s3 H3 scope ce fp) [] H' b := fun {σ' H' s'} I' hn b hb =>
    ⟨hn b hb, (I'.ok.exf b hb).1, I'.ok.exfs b hb, .inl hb, fun x c e => (I'.ok.exf b hb).2 x c e, fun p hp => absurd (show p ∈ ([] : List (Addr × Obj)) ++ [] from hp) (by simp)⟩
  have hch : ∀ b ∈ fp, (b ∈ X.ex ∨ X.s_0.heap.objs.size ≤ b) ∧ b ≠ X.env.locals ∧ (∀ x c, X.env.cells.lookup x = some c → c ≠ b) ∧ ∀ p ∈ X.pn ++ pins, p.1 ≠ b := fun b hb => ⟨(f3 b hb).1.2.2.2.1, (f3 b hb).1.2.1, (f3 b hb).1.2.2.2.2.1, (f3 b hb).1.2.2.2.2.2⟩
  have pe := pe (notedBy (model X.prog X.w) X.A ce (fun e s' => compPostE (model X.prog X.w) X.A X.xe (EP X pins σ Q) (.ref D) ce (.error e) s')) fun pins' σ' H' s' e s'' I' c => by
    obtain ⟨m', hm', _⟩ := I'.loc
    exact blk_out tk hW hst hfl I3 cF (by rw [cL]; exact Nat.le_refl _) hch I'.os I'.base I'.hok I'.bare I'.free ⟨m', hm'⟩ c
  have loop : codeAny (model X.prog X.w) X.A (.compLoop (.ListComp elt [⟨tg, iter, ifs, 0⟩] scope pos) 0 (.ref it) (.ref D) ce) (compPostE (model X.prog X.w) X.A X.xe (EP X pins σ Q) (.ref D) ce) s4 := by
    refine compLoop_any (fun n s' => ∃ i H', Inv (X.blk s3 H3 scope ce fp) [] (wipe σ (own.map (·.2))) H' s' ∧ tn i s'.heap ∧ (∀ b ∈ fp, H' b = none) ∧ W' i n H') ?_ m0 ⟨0, H3, I4, st4, nfp, w0⟩
    rintro n s5 ⟨i, H5, I5, st5, n5, w5⟩
    rcases turn i n H5 w5 with ⟨stop, qq⟩ | ⟨go, Nx, hNx, step⟩
    · have td := T.done (X.blk s3 H3 scope ce fp) rfl rfl rfl hc i [] s5 _ H5 (fun _ _ => False) I5 (stat I5 n5) st5 stop
      refine thnF td fun r s6 ⟨hr, I6⟩ => ?_
      subst hr
      have I7 : Inv X pins σ H5 s6 := I3.call' (ch := fp) I6.os I6.base I6.hok I6.bare hch
      have nC : H5 s3.heap.objs.size = none := by
        have z : H5 ce.locals = none := I6.free
        rw [cL] at z
        exact z
      obtain ⟨m, hn, _⟩ := I6.loc
      have hn : s6.heap.Ns ce.locals m := hn
      obtain ⟨f0, f1, f2, f3, f4, f5⟩ := I3.fpOk (Nat.le_refl _) nC
      refine ⟨m, hn, fun h'' sb => ?_⟩
      rw [cL] at sb
      exact ⟨.ref D, H5, I7.turned (t' := s6.toks) (fun b o hb e => (sb.2 b hb).trans e) f0 f1 f3 f4 f5, rfl, qq⟩
    · have ti := T.item (X.blk s3 H3 scope ce fp) rfl rfl rfl hc i [] s5 _ H5 (fun _ _ => False) I5 (stat I5 n5) st5 go
      refine thnF ti fun r s6 ⟨u, hr, h6⟩ => ?_
      subst hr
      refine thnF h6 fun _ s7 ⟨x, H7, I7, r7, y7, st7, n7⟩ => ?_
      have I7' := I7.pinned (stat I7 n7) (T.obj _ _ st7)
      refine thnF (pg.run _ s7 _ H7 x u _ I7' r7 (step x H7 y7)) fun _ s8 ⟨σ8, H8, I8, hw8, q8⟩ => ?_
      refine thnF (pt.run _ s8 σ8 H8 _ I8 q8) fun b s9 ⟨H9, I9, q9⟩ => ?_
      have fin : ∀ {s' : Shared} {H' : Hp}, Inv (X.blk s3 H3 scope ce fp) ([] ++ pinsAt fp s7.heap) σ8 H' s' → Nx H' → ∃ m, m < n ∧ ∃ i H', Inv (X.blk s3 H3 scope ce fp) [] (wipe σ (own.map (·.2))) H' s' ∧ tn i s'.heap ∧ (∀ b ∈ fp, H' b = none) ∧ W' i m H' := fun {s' H'} I' nx => by
        obtain ⟨m', hm, w'⟩ := hNx H' nx
        have pin' : ∀ b ∈ fp, ∀ o, s7.heap.get? b = some o → s'.heap.get? b = some o ∧ H' b = none := fun b hb o e =>
          let z := I'.pin (b, o) (List.mem_append_right _ (List.mem_append_right _ (mem_pinsAt hb e)))
          ⟨z.1, z.2.1⟩
        have hl : (wipe σ (own.map (·.2))).length = σ8.length := by rw [← hw8, wipe_length]
        refine ⟨m', hm, i + 1, H', (I'.unpinned (pins := [])).weak hl (fun j v e => ?_), T.keep _ _ _ st7 fun b hb o e => (pin' b hb o e).1, fun b hb => ?_, w'⟩
        · rw [← hw8] at e
          exact (wipe_some e).1
        · obtain ⟨o, e, _⟩ := T.obj _ _ st7 b hb
          exact (pin' b hb o e).2
      cases b with
      | false =>
        simp only [Bool.false_eq_true, if_false] at q9 ⊢
        exact fin I9 q9
      | true =>
        simp only [if_true] at q9 ⊢
        refine wpAny_mono (pe.run _ s9 σ8 H9 _ (inv_xe I9) q9) (fun z s10 ⟨yv, H10, I10, r10, acc, hD10, hz10, nx⟩ => ?_) fun e s' hx => hx
        exact app_ok (X := X.blk s3 H3 scope ce fp) (inv_xe (xe := fun _ _ => False) I10) hD10 hz10 r10 fun s11 I11 => fin I11 nx
  exact codeAny_compStart_list loop (T.self X.A 0 _ _ _ st4 loop)
end
end Ww
/-! first, *rest = a list -/
namespace Ww
open PySem PySem.Spec PySem.Calls PyProof.Rows L2
section
variable {prog : Program} {w : World} {A : Around} {E : Value → Shared → Prop} {s : Shared}
theorem unstar {l : Addr} {items : Array Value} {Q : List Value → Shared → Prop} (hl : s.heap.IsList l items) (hh : A.handled = none) (hn : 1 ≤ items.size) (hz : items.size ≤ 16384)
    (h : ∀ h₂ tk, Heap.ExtBut s.heap.objs.size s.heap h₂ → wpAny (model prog w) A (newList (items.toList.drop 1) >>= fun d => pure (items.toList.take 1 ++ [d] ++ [])) Q E { s with heap := h₂, toks := tk }) : wpAny (model prog w) A (unpackItems (.ref l) 2 (some 1)) Q E s := by
  have hlt : l ≠ s.heap.objs.size := by obtain ⟨o, ho, _⟩ := hl; exact Nat.ne_of_lt (Heap.lt_size ho)
  have hll : l < s.heap.objs.size := by obtain ⟨o, ho, _⟩ := hl; exact Heap.lt_size ho
  unfold unpackItems
  refine wpAny_bind ?_
  unfold notIterableAtAll
  refine wpAny_bind (wpAny_specialOf hl.typeIs slot_list_iter.lookup ?_)
  refine wpAny_pure ?_
  simp only [Bool.false_eq_true, if_false]
  refine wpAny_bind (wpAny_holding (wpAny_pyIter_list hl ?_))
  refine wpAny_bind (wpAny_holding (PySem.W.kun_draw hlt 1 0 _ _ ⟨_, Heap.get?_push_size _ rfl, rfl, rfl⟩ (hl.push _) (by omega) fun h₁ hit₁ hs₁ => ?_))
  have hl₁ : h₁.IsList l items := (hl.push _).extBut hs₁.extBut hlt
  rw [Nat.zero_add] at hit₁
  have hit₁' := hit₁
  obtain ⟨oi, hoi, _⟩ := hit₁'
  have hl₁' := hl₁
  obtain ⟨ol, hol, _⟩ := hl₁'
  rw [List.drop_zero]
  have hfl : (items.toList.take 1).length = 1 := by rw [List.length_take, Array.length_toList]; omega
  rw [if_neg (show ¬ ((items.toList.take 1).length < 1) by rw [hfl]; omega)]
  refine wpAny_bind (wpAny_holding (PySem.W.kun_collect (s := { s with heap := h₁ }) (T := "list_iterator") (.inr (.inr (.inl rfl))) (Walks.list (A := A.in1) hh s.heap.objs.size l hlt items) (fun j u st => st.1.typeIs) (k := 1) (by omega) ⟨hit₁, hl₁⟩ (Heap.lt_size hoi) (Heap.lt_size hol) (fun h₂ tk hk => ?_) (by rw [sizeLine_eq]; omega)))
  have hrl : (items.toList.drop 1).length = items.size - 1 := by rw [List.length_drop, Array.length_toList]
  show wpAny _ _ (if (items.toList.drop 1).length < 2 - 1 - 1 then _ else _) _ _ _
  rw [if_neg (by omega)]
  show wpAny _ _ (newList ((items.toList.drop 1).take ((items.toList.drop 1).length - (2 - 1 - 1))) >>= fun d => pure (items.toList.take 1 ++ [d] ++ (items.toList.drop 1).drop ((items.toList.drop 1).length - (2 - 1 - 1)))) _ _ _
  have e1 : (items.toList.drop 1).take ((items.toList.drop 1).length - (2 - 1 - 1)) = items.toList.drop 1 := List.take_of_length_le (by omega)
  have e2 : (items.toList.drop 1).drop ((items.toList.drop 1).length - (2 - 1 - 1)) = [] := List.drop_of_length_le (by omega)
  rw [e1, e2]
  exact h h₂ tk fun b o hb e => hk b o hb (hs₁.extBut b o hb (Heap.get?_push_of_some _ e))
end
section
variable {X : Cx} {pos : Pos}
/-- the target first, *rest: of a list of one item and more -/
def gStar1 (K : PySem.W.Frag) (t : TGs) : TG := fun v σ H Q => ∃ a x xs, v = .ref a ∧ SqL K H a (x :: xs) ∧ xs.length ≤ 16000 ∧ ∀ p, H p = none → t [x, .ref p] σ (upd H p (.lst xs)) Q
theorem pgs_star {e : Expr} {p : Pos} {es : List Expr} {t : TG} {u : TGs} (h1 : PG X e t) (h2 : PGs X es u)
    (hs : (assignEach (.Starred e p :: es) X.env).map (·.2) = assign e X.env :: (assignEach es X.env).map (·.2) := by rfl) : PGs X (.Starred e p :: es) (gCons t u) := by
  refine ⟨fun pins s σ H vs us Q I r h => ?_⟩
  obtain ⟨v, vr, e1, h⟩ := h
  subst e1
  cases r with
  | cons r rr =>
    rw [hs]
    refine assignInOrder_cons (thn (h1.run pins s σ H _ _ _ I r h) fun _ s1 ⟨σ1, H1, I1, q1⟩ => ?_)
    exact h2.run pins s1 σ1 H1 _ _ Q I1 rr q1
theorem pg_star1 {es : List Expr} {k : Nat} {t : TGs} (hc : X.calm = true) (h : PGs X es t)
    (hn : (assignEach es X.env).length = 2 := by rfl) (hst : (assignEach es X.env).findIdx? (·.1) = some 1 := by rfl) : PG X (.Tuple es k pos) (gStar1 X.K t) := by
  refine ⟨fun pins s σ H v u Q I r hw => ?_⟩
  obtain ⟨a, x, xs, e1, hq, hl, hw⟩ := hw
  subst e1
  cases r
  obtain ⟨its, rv, pl, hz⟩ := I.list hq
  have hsz : its.length = xs.length + 1 := by rw [← rv.length, List.length_cons]
  rw [PyProof.Rows.assign_Tuple]
  refine wpAny_bind (wpAny_standAt ?_)
  unfold unpack
  rw [hn, hst]
  refine wpAny_bind (wpAny_holding (unstar pl.isList (I.ok.hd hc) (by rw [List.size_toArray]; omega) (by rw [List.size_toArray]; omega) fun h₂ tk hx => ?_))
  have I1 : Inv X pins σ H { s with heap := h₂, toks := tk } := I.kept (t' := tk) fun b o e => hx b o (Nat.ne_of_lt (Heap.lt_size e)) e
  match its, rv, hsz with
  | y :: ys, .cons r1 rr, hsz =>
    simp only [List.drop_succ_cons, List.drop_zero, List.take_succ_cons, List.take_zero]
    refine wpAny_bind (wpAny_newObj_type (wpAny_pure ?_) ?_)
    rotate_left
    · show ys.toArray.size ≤ sizeLine
      rw [List.size_toArray]
      have : ys.length ≤ 16000 := by rw [List.length_cons] at hsz; omega
      exact Nat.le_trans this (by decide)
    have hD : H h₂.objs.size = none := I1.hok.fresh (Nat.le_refl _)
    have I2 : Inv X pins σ (upd H h₂.objs.size (.lst xs)) { ({ s with heap := h₂, toks := tk } : Shared) with heap := h₂.push { cls := .type "list", data := .seq ys.toArray } } := by
      refine I1.laid (t' := tk) (fun b o e => Heap.get?_push_of_some _ e) (Nat.le_refl _) ⟨?_, ys, 0, rr, Heap.get?_push_size _ rfl⟩
      exact Nat.le_trans (show xs.length ≤ 16000 from hl) (by decide)
    exact h.run pins _ σ _ _ _ Q I2 (.cons r1 (.cons (show RelV (.ref h₂.objs.size) (.ref h₂.objs.size) from rfl) .nil)) (hw _ hD)
end
end Ww
namespace Ww
open PySem PySem.Spec PyProof.Rows L2
def topS (i : Nat) : Stmt := PySem.Challenge.pw_wheelways_k05_written.main.body.getD i (.Pass ⟨0, 0, 0, 0⟩)
abbrev s_is_whole : Stmt := topS 8
theorem sc_is_whole : FnScope ["thing"] ["thing"] (defScope s_is_whole) := ⟨rfl, rfl, rfl, by decide +kernel, rfl, by decide +kernel, by decide +kernel⟩
abbrev s_check_wheels : Stmt := topS 9
theorem sc_check_wheels : FnScope ["wheels", "size"] ["wheels"] (defScope s_check_wheels) := ⟨rfl, rfl, rfl, by decide +kernel, rfl, by decide +kernel, by decide +kernel⟩
abbrev s_is_setting : Stmt := topS 10
theorem sc_is_setting : FnScope ["wheels", "setting", "size", "place"] ["wheels", "setting"] (defScope s_is_setting) := ⟨rfl, rfl, rfl, by decide +kernel, rfl, by decide +kernel, by decide +kernel⟩
abbrev s_check_setting : Stmt := topS 11
theorem sc_check_setting : FnScope ["wheels", "setting"] ["wheels", "setting"] (defScope s_check_setting) := ⟨rfl, rfl, rfl, by decide +kernel, rfl, by decide +kernel, by decide +kernel⟩
abbrev s_written : Stmt := topS 14
theorem sc_written : FnScope ["wheels", "setting", "size", "sizes", "numbers", "place"] ["wheels", "setting"] (defScope s_written) := ⟨rfl, rfl, rfl, by decide +kernel, rfl, by decide +kernel, by decide +kernel⟩
abbrev s_read : Stmt := topS 15
theorem sc_read : FnScope ["text", "sizes", "colon", "numbers", "wheels", "setting"] ["text"] (defScope s_read) := ⟨rfl, rfl, rfl, by decide +kernel, rfl, by decide +kernel, by decide +kernel⟩
abbrev s_numbers : Stmt := topS 16
theorem sc_numbers : FnScope ["text", "first", "words", "word"] ["text"] (defScope s_numbers) := ⟨rfl, rfl, rfl, by decide +kernel, rfl, by decide +kernel, by decide +kernel⟩
abbrev s_number : Stmt := topS 17
theorem sc_number : FnScope ["word", "number"] ["word"] (defScope s_number) := ⟨rfl, rfl, rfl, by decide +kernel, rfl, by decide +kernel, by decide +kernel⟩
abbrev s_law_cell_at : Stmt := topS 19
theorem sc_law_cell_at : FnScope ["_law_script", "_law_k"] ["_law_script", "_law_k"] (defScope s_law_cell_at) := ⟨rfl, rfl, rfl, by decide +kernel, rfl, by decide +kernel, by decide +kernel⟩
abbrev s_law_draw : Stmt := topS 20
theorem sc_law_draw : FnScope ["_law_cell", "_law_k", "_law_many", "_law_primes"] ["_law_cell", "_law_k", "_law_many"] (defScope s_law_draw) := ⟨rfl, rfl, rfl, by decide +kernel, rfl, by decide +kernel, by decide +kernel⟩
abbrev s_law_wheels : Stmt := topS 21
theorem sc_law_wheels : FnScope ["_law_script", "_law_kind", "_law_found", "_law_k", "_law_size"] ["_law_script"] (defScope s_law_wheels) := ⟨rfl, rfl, rfl, by decide +kernel, rfl, by decide +kernel, by decide +kernel⟩
abbrev s_law_far : Stmt := topS 22
theorem sc_law_far : FnScope ["_law_script", "_law_by", "_law_most", "_law_found", "_law_k"] ["_law_script", "_law_by", "_law_most"] (defScope s_law_far) := ⟨rfl, rfl, rfl, by decide +kernel, rfl, by decide +kernel, by decide +kernel⟩
abbrev s_law_setting : Stmt := topS 23
theorem sc_law_setting : FnScope ["_law_script", "_law_wheels_here", "_law_by", "_law_kind", "_law_found", "_law_k", "_law_size", "_law_number_here"] ["_law_script", "_law_wheels_here", "_law_by"] (defScope s_law_setting) := ⟨rfl, rfl, rfl, by decide +kernel, rfl, by decide +kernel, by decide +kernel⟩
abbrev s_law_count : Stmt := topS 24
theorem sc_law_count : FnScope ["_law_wheels_here", "_law_found", "_law_size"] ["_law_wheels_here"] (defScope s_law_count) := ⟨rfl, rfl, rfl, by decide +kernel, rfl, by decide +kernel, by decide +kernel⟩
abbrev s_law_is_setting : Stmt := topS 25
theorem sc_law_is_setting : FnScope ["_law_wheels_here", "_law_found", "_law_one", "_law_k"] ["_law_wheels_here", "_law_found"] (defScope s_law_is_setting) := ⟨rfl, rfl, rfl, by decide +kernel, rfl, by decide +kernel, by decide +kernel⟩
abbrev s_law_step : Stmt := topS 26
theorem sc_law_step : FnScope ["_law_one", "_law_other", "_law_k"] ["_law_one", "_law_other"] (defScope s_law_step) := ⟨rfl, rfl, rfl, by decide +kernel, rfl, by decide +kernel, by decide +kernel⟩
abbrev s_law_whole : Stmt := topS 27
theorem sc_law_whole : FnScope ["_law_number_here"] ["_law_number_here"] (defScope s_law_whole) := ⟨rfl, rfl, rfl, by decide +kernel, rfl, by decide +kernel, by decide +kernel⟩
abbrev s_law_number : Stmt := topS 28
theorem sc_law_number : FnScope ["_law_text"] ["_law_text"] (defScope s_law_number) := ⟨rfl, rfl, rfl, by decide +kernel, rfl, by decide +kernel, by decide +kernel⟩
abbrev s_law_in : Stmt := topS 29
theorem sc_law_in : FnScope ["_law_text", "_law_first", "_law_second", "_law_words", "_law_sizes", "_law_numbers", "_law_word"] ["_law_text"] (defScope s_law_in) := ⟨rfl, rfl, rfl, by decide +kernel, rfl, by decide +kernel, by decide +kernel⟩
abbrev s_law_refused : Stmt := topS 30
theorem sc_law_refused : FnScope ["_law_text", "error", "_law_others"] ["_law_text"] (defScope s_law_refused) := ⟨rfl, rfl, rfl, by decide +kernel, rfl, by decide +kernel, by decide +kernel⟩
abbrev s_law_right : Stmt := topS 31
theorem sc_law_right : FnScope ["_law_text", "_law_due", "_law_found"] ["_law_text"] (defScope s_law_right) := ⟨rfl, rfl, rfl, by decide +kernel, rfl, by decide +kernel, by decide +kernel⟩
abbrev s_law_few : Stmt := topS 32
theorem sc_law_few : FnScope ["_law_some"] [] (defScope s_law_few) := ⟨rfl, rfl, rfl, by decide +kernel, rfl, by decide +kernel, by decide +kernel⟩
abbrev s_law : Stmt := topS 33
theorem sc_law : FnScope ["_law_script", "_law_wheels_here", "_law_setting_here", "_law_text", "_law_handed", "_law_cell", "_law_k", "_law_at", "_law_sign", "_law_thing", "_law_number_here", "_law_other", "_law_size"] ["_law_script"] (defScope s_law) := ⟨rfl, rfl, rfl, by decide +kernel, rfl, by decide +kernel, by decide +kernel⟩
end Ww
/-! loops over enumerate and reversed, what a list's type is, products of many sizes -/
namespace Ww
open PySem PySem.Spec PyProof.Rows L2
theorem for_enumL {K : PySem.W.Frag} {a : Addr} {xs : List V} {g : TG} {tb : TS} {D : Ends} {σ : L2.St} {H : Hp} (Pv : Nat → L2.St → Hp → Prop) (h0 : Pv 0 σ H) (hq : ∀ i σ H, Pv i σ H → SqL K H a xs)
    (hs : ∀ (i : Nat) (x : V) (T : Addr) (σ : L2.St) (H : Hp), xs[i]? = some x → Pv i σ H → H T = none → g (.ref T) σ (upd H T (.tup [.int (i : Nat), x])) fun σ2 H2 => tb { D with nx := Pv (i + 1), ct := Pv (i + 1), bk := D.nx } σ2 H2) (hd : ∀ σ H, Pv xs.length σ H → D.nx σ H) :
    ∃ W : Nat → Nat → L2.St → Hp → Prop, (∃ m, W 0 m σ H) ∧ ∀ i m σ H, W i m σ H →
      ((Ite K a).stop i H ∧ D.nx σ H) ∨ ((Ite K a).go i H ∧ ∃ N : L2.St → Hp → Prop, (∀ σ' H', N σ' H' → ∃ m', m' < m ∧ W (i + 1) m' σ' H') ∧ ∀ v H', (Ite K a).yld i H v H' → g v σ H' fun σ2 H2 => tb { D with nx := N, ct := N, bk := D.nx } σ2 H2) := by
  refine ⟨fun i m σ H => i + m = xs.length ∧ Pv i σ H, ⟨xs.length, by omega, h0⟩, fun i m σ H h => ?_⟩
  obtain ⟨e, p⟩ := h
  have hx := hq i σ H p
  by_cases c : i < xs.length
  · have g1 : xs[i]? = some xs[i] := List.getElem?_eq_getElem c
    refine .inr ⟨⟨xs, xs[i], hx, g1⟩, Pv (i + 1), fun σ' H' n => ⟨m - 1, by omega, by omega, n⟩, fun v H' y => ?_⟩
    obtain ⟨T, z, rfl, nT, rfl, fz⟩ := y
    have ez : z = xs[i] := Option.some.inj ((fz _ hx).symm.trans g1)
    subst ez
    exact hs i _ T σ H g1 p nT
  · have ei : i = xs.length := by omega
    subst ei
    exact .inl ⟨⟨xs, hx, Nat.le_refl _⟩, hd σ H p⟩
theorem for_revL {K : PySem.W.Frag} {a : Addr} {xs : List V} {g : TG} {tb : TS} {D : Ends} {σ : L2.St} {H : Hp} (Pv : Nat → L2.St → Hp → Prop) (h0 : Pv 0 σ H) (hq : ∀ i σ H, Pv i σ H → SqL K H a xs)
    (hs : ∀ (i : Nat) (x : V) (σ : L2.St) (H : Hp), xs.reverse[i]? = some x → Pv i σ H → g x σ H fun σ2 H2 => tb { D with nx := Pv (i + 1), ct := Pv (i + 1), bk := D.nx } σ2 H2) (hd : ∀ σ H, Pv xs.length σ H → D.nx σ H) :
    ∃ W : Nat → Nat → L2.St → Hp → Prop, (∃ m, W 0 m σ H) ∧ ∀ i m σ H, W i m σ H →
      ((Itv K a xs.length).stop i H ∧ D.nx σ H) ∨ ((Itv K a xs.length).go i H ∧ ∃ N : L2.St → Hp → Prop, (∀ σ' H', N σ' H' → ∃ m', m' < m ∧ W (i + 1) m' σ' H') ∧ ∀ v H', (Itv K a xs.length).yld i H v H' → g v σ H' fun σ2 H2 => tb { D with nx := N, ct := N, bk := D.nx } σ2 H2) := by
  refine ⟨fun i m σ H => i + m = xs.length ∧ Pv i σ H, ⟨xs.length, by omega, h0⟩, fun i m σ H h => ?_⟩
  obtain ⟨e, p⟩ := h
  have hx := hq i σ H p
  by_cases c : i < xs.length
  · have g1 : xs[xs.length - 1 - i]? = some xs[xs.length - 1 - i] := List.getElem?_eq_getElem (by omega)
    have g2 : xs.reverse[i]? = some xs[xs.length - 1 - i] := by rw [List.getElem?_reverse c, g1]
    refine .inr ⟨⟨c, xs, _, hx, g1⟩, Pv (i + 1), fun σ' H' n => ⟨m - 1, by omega, by omega, n⟩, fun v H' y => ?_⟩
    obtain ⟨rfl, fz⟩ := y
    have ez : v = xs[xs.length - 1 - i] := Option.some.inj ((fz _ hx).symm.trans g1)
    subst ez
    exact hs i _ σ _ g2 p
  · have ei : i = xs.length := by omega
    subst ei
    exact .inl ⟨Nat.le_refl _, hd σ H p⟩
theorem tyx_list {K : PySem.W.Frag} {H : Hp} {a : Addr} {xs : List V} (h : SqL K H a xs) : TyX K H (.ref a) (.type "list") := by
  rcases h with (h | ⟨o, h⟩) | ⟨o, its, n, e, c, _⟩
  · exact .base (.lst h)
  · exact .base (.frz h)
  · exact .kList e c
theorem dec_int1 (x y : Int) : decide (V.int x = V.int y) = decide (x = y) := by
  by_cases c : x = y
  · subst c
    rw [decide_eq_true rfl, decide_eq_true rfl]
  · rw [decide_eq_false c, decide_eq_false fun q => c (V.int.inj q)]
/-! ### lists of ints compared -/
theorem dpAll_ints {K : PySem.W.Frag} {H : Hp} : ∀ ns : List Int, DpAll K H (ns.map V.int) (ns.map PyData.int)
  | [] => .nil
  | n :: r => .cons (.int n) (dpAll_ints r)
theorem dp_ints {K : PySem.W.Frag} {H : Hp} {a : Addr} {ns : List Int} (h : SqL K H a (ns.map V.int)) : Dp K H (.ref a) (.list (ns.map PyData.int)) := .lst h (dpAll_ints ns)
theorem eqvAll_ints : ∀ xs ys : List Int, PyData.eqvAll (xs.map PyData.int) (ys.map PyData.int) = decide (xs = ys)
  | [], [] => by simp [PyData.eqvAll]
  | [], _ :: _ => by simp [PyData.eqvAll]
  | _ :: _, [] => by simp [PyData.eqvAll]
  | x :: xs, y :: ys => by
    simp only [List.map_cons, PyData.eqvAll, PyData.eqv, eqvAll_ints xs ys]
    by_cases h : x = y <;> by_cases h2 : xs = ys <;> simp [h, h2]
theorem eqv_ints (xs ys : List Int) : PyData.eqv (.list (xs.map PyData.int)) (.list (ys.map PyData.int)) = decide (xs = ys) := by
  simp only [PyData.eqv]
  exact eqvAll_ints xs ys
def rEqI (K : PySem.W.Frag) : R2 := fun x y H Q => ∃ (a b : Addr) (xs ys : List Int), x = .ref a ∧ y = .ref b ∧ SqL K H a (xs.map V.int) ∧ SqL K H b (ys.map V.int) ∧ Q (.bl (decide (xs = ys))) H
def rNeI (K : PySem.W.Frag) : R2 := fun x y H Q => ∃ (a b : Addr) (xs ys : List Int), x = .ref a ∧ y = .ref b ∧ SqL K H a (xs.map V.int) ∧ SqL K H b (ys.map V.int) ∧ Q (.bl (!decide (xs = ys))) H
theorem eqIK {X : Cx} (K : PySem.W.Frag) (hu : X.A.units + 64 < cLine) (h : X.K = K := by rfl) : OpR X (compareOp .Eq) (rEqI K) := fun pins s σ H x y v u Q I rx ry q => by
  obtain ⟨a, b, xs, ys, rfl, rfl, h1, h2, q⟩ := q
  refine eqDK K hu h pins s σ H _ _ v u Q I rx ry ⟨_, _, dp_ints h1, dp_ints h2, PySem.W.shaped_ints xs, PySem.W.shaped_ints ys, ?_⟩
  rw [eqv_ints]
  exact q
theorem neIK {X : Cx} (K : PySem.W.Frag) (hu : X.A.units + 64 < cLine) (h : X.K = K := by rfl) : OpR X (compareOp .NotEq) (rNeI K) := fun pins s σ H x y v u Q I rx ry q => by
  obtain ⟨a, b, xs, ys, rfl, rfl, h1, h2, q⟩ := q
  refine neDK K hu h pins s σ H _ _ v u Q I rx ry ⟨_, _, dp_ints h1, dp_ints h2, PySem.W.shaped_ints xs, PySem.W.shaped_ints ys, ?_⟩
  rw [eqv_ints]
  exact q
theorem rep_flat (n : Nat) (z : Int) : (List.replicate n [V.int z]).flatten = (List.replicate n z).map V.int := by
  induction n with
  | zero => rfl
  | succ n ih => rw [List.replicate_succ, List.flatten_cons, ih, List.replicate_succ]; rfl
theorem rgV_ints (a b : Int) : ∃ ms : List Int, rgV a b = ms.map V.int ∧ ms.length = (b - a).toNat := by
  refine ⟨(List.range (b - a).toNat).map fun i => a + (i : Nat), ?_, by rw [List.length_map, List.length_range]⟩
  unfold rgV
  rw [List.map_map]
  rfl
/-! ### sizes -/
def big : Int := 10 ^ 59
theorem big_eq : (10 : Int) ^ (59 : Int).toNat = big := rfl
theorem big_ge : 1000 ≤ big := by decide +kernel
theorem big_bits : big.natAbs < 2 ^ 200 := by decide +kernel
def sizes (ws : List Int) : Prop := ∀ s ∈ ws, 1 ≤ s ∧ s ≤ big
theorem sizes_snoc {ws : List Int} {s : Int} (h : sizes ws) (h1 : 1 ≤ s) (h2 : s ≤ big) : sizes (ws ++ [s]) := fun x hx => by
  rcases List.mem_append.mp hx with e | e
  · exact h x e
  · rw [List.mem_singleton.mp e]
    exact ⟨h1, h2⟩
theorem sizes.ones {ws : List Int} (h : sizes ws) : ones ws := fun s hs => (h s hs).1
theorem sizes.reverse {ws : List Int} (h : sizes ws) : sizes ws.reverse := fun s hs => h s (List.mem_reverse.mp hs)
theorem sizes.take {ws : List Int} (h : sizes ws) (i : Nat) : sizes (ws.take i) := fun s hs => h s (List.mem_of_mem_take hs)
theorem sizes.at {ws : List Int} (h : sizes ws) {i : Nat} {s : Int} (e : ws[i]? = some s) : 1 ≤ s ∧ s ≤ big := h s (List.mem_of_getElem? e)
theorem size_bits {s : Int} (h : 1 ≤ s) (h2 : s ≤ big) : s.natAbs < 2 ^ 200 := wide_le (by omega) h2 big_bits
theorem prd_bits : ∀ {l : List Int}, sizes l → (prd l).natAbs < 2 ^ (200 * l.length + 1)
  | [], _ => by decide
  | s :: r, h => by
    have h1 := prd_bits (l := r) fun x hx => h x (List.mem_cons_of_mem _ hx)
    have h2 := h s List.mem_cons_self
    have h3 := wide_lt h1 (size_bits h2.1 h2.2)
    have e : 200 * (s :: r).length + 1 = 200 * r.length + 1 + 200 := by rw [List.length_cons]; omega
    rw [e]
    exact h3
theorem prd_snoc {ws : List Int} {i : Nat} {s : Int} (e : ws[i]? = some s) : prd (ws.take (i + 1)).reverse = prd (ws.take i).reverse * s := by
  rw [take_more e, List.reverse_append]
  rfl
theorem cut_all (xs : List V) {k : Nat} (h : xs.length ≤ k) : cutV xs none (some (k : Int)) = xs := by
  unfold cutV
  rw [HT.sIx_none, HT.sIx_nat, List.drop_zero, Nat.min_eq_right h, Nat.sub_zero, List.take_length]
end Ww
/-! sorted of a list of rows: lists of whole numbers -/
namespace Ww
open PySem PySem.Spec PyProof.Rows L2
def rowV (L : List (Addr × List Int)) : List V := L.map fun q => V.ref q.1
theorem alike_rows (b b' : Addr × List Int) : PySem.W.alike (.list (b.2.map PyData.int)) (.list (b'.2.map PyData.int)) = true := by
  rw [PySem.W.alike]
  exact PySem.W.alike_ints _ _
theorem rows_each {α : Type} {R : Value → α → Prop} {f : α → V} : ∀ {L : List α} {its : List Value}, Vals (L.map f) its → (∀ q ∈ L, ∀ v, RelV (f q) v → R v q) → PySem.W.EachIs R its L
  | [], [], _, _ => .nil
  | [], _ :: _, r, _ => by cases r
  | _ :: _, [], r, _ => by cases r
  | q :: L, v :: its, r, h => by
    cases r with
    | cons r1 r2 => exact .cons (h q List.mem_cons_self v r1) (rows_each r2 fun q hq => h q (List.mem_cons_of_mem _ hq))
theorem vals_rows : ∀ {L : List (Addr × List Int)} {its : List Value}, PySem.W.EachIs (fun v (q : Addr × List Int) => v = .ref q.1) its L → Vals (rowV L) its
  | [], [], _ => .nil
  | [], _ :: _, r => by cases r
  | _ :: _, [], r => by cases r
  | q :: L, v :: its, r => by
    cases r with
    | cons r1 r2 => exact .cons r1 (vals_rows r2)
def rSortedR (K : PySem.W.Frag) : List V → Hp → VK → Prop := fun vs H Q => ∃ (a : Addr) (L : List (Addr × List Int)), vs = [V.ref a] ∧ SqL K H a (rowV L) ∧ (∀ q ∈ L, SqL K H q.1 (q.2.map V.int)) ∧
  ∀ p : Addr, H p = none → Q (.ref p) (upd H p (.lst (rowV (L.mergeSort fun q r => decide (q.2 ≤ r.2)))))
theorem cr_sortedR {X : Cx} (K : PySem.W.Frag) (hu : X.A.units + 64 < cLine) (h : X.K = K := by rfl) : CallR X (.builtin "sorted") (rSortedR K) := by
  subst h
  intro pins s σ H vs us Q I r h
  obtain ⟨a, L, rfl, hs, hL, q⟩ := h
  obtain ⟨its, rv, hl, hz⟩ := I.list hs
  rw [Vals.ref1 r]
  have e1 : PySem.W.EachIs (fun v (q : Addr × List Int) => v = .ref q.1) its L := rows_each rv fun q _ v hv => hv
  have e2 : PySem.W.EachIs (fun v (q : Addr × List Int) => ∃ as, Reads s.heap v (.list (q.2.map PyData.int)) as) its L := rows_each rv fun q hq v hv => by
    obtain ⟨its2, rv2, hl2, _⟩ := I.list (hL q hq)
    have ev : v = .ref q.1 := hv
    subst ev
    exact ⟨_, PySem.W.reads_of_ints hl2.isList rv2.ints⟩
  have hln : L.length ≤ sizeLine := by
    unfold rowV at hz
    rw [List.length_map] at hz
    exact hz
  refine PySem.W.sorted_data (enc := fun q : Addr × List Int => .list (q.2.map PyData.int)) hl.isList e1 e2 (PySem.W.AllAlike.of alike_rows) (PySem.W.Sortable.others fun b => ⟨(fun x => nomatch x), fun xs x => nomatch x⟩) hln (fun b _ => ?_) fun out h1 h2 => ?_
  · have hd := PySem.W.depthAll_ints b.2
    simp only [PyData.depth]
    omega
  · rw [PySem.W.dataLe_rows (fun q : Addr × List Int => q.2)] at h2
    obtain ⟨ep, he'⟩ := PyProof.Rows.sortedAll_at s.heap its out.toArray
    have hlen : (rowV (L.mergeSort fun q r => decide (q.2 ≤ r.2))).length ≤ sizeLine := by
      unfold rowV
      rw [List.length_map, List.length_mergeSort]
      exact hln
    exact ⟨.ref _, upd H (s.heap.objs.size + 1) (.lst (rowV (L.mergeSort fun q r => decide (q.2 ≤ r.2)))), I.laid (t' := s.toks) (fun _ _ => PyProof.Rows.sortedAll_old) (Nat.le_succ _) ⟨hlen, out, ep, vals_rows h2, he'⟩, rfl, q _ (I.hok.fresh (Nat.le_succ _))⟩
/-- a list at o of rows, all laid since H1 -/
structure Rows (H1 H3 : Hp) (o : Addr) (L : List (Addr × List Int)) : Prop where
  same : Same H1 H3
  lst : H3 o = some (.lst (rowV L))
  each : ∀ q ∈ L, q.1 ≠ o ∧ H1 q.1 = none ∧ H3 q.1 = some (.lst (q.2.map V.int))
theorem Rows.nil {H1 : Hp} {o : Addr} (no : H1 o = none) : Rows H1 (upd H1 o (.lst [])) o [] := ⟨same_upd no, upd_same, fun _ h => by cases h⟩
theorem Rows.keep {H1 H3 H4 : Hp} {o : Addr} {L : List (Addr × List Int)} (R : Rows H1 H3 o L) (s : Same H3 H4) : Rows H1 H4 o L :=
  ⟨R.same.trans s, s _ _ R.lst, fun q hq => ⟨(R.each q hq).1, (R.each q hq).2.1, s _ _ (R.each q hq).2.2⟩⟩
theorem Rows.more {H1 H3 H4 : Hp} {o p : Addr} {r : List Int} {L : List (Addr × List Int)} (R : Rows H1 H3 o L) (no : H1 o = none) (s4 : Same H3 H4) (np : H3 p = none) (ep : H4 p = some (.lst (r.map V.int))) :
    Rows H1 (upd H4 o (.lst (rowV L ++ [.ref p]))) o (L ++ [(p, r)]) := by
  refine ⟨fun c u e => ?_, ?_, fun q hm => ?_⟩
  · rw [upd_ne (ne_of_none e no)]
    exact (R.same.trans s4) _ _ e
  · rw [upd_same]
    unfold rowV
    rw [List.map_append]
    rfl
  · rcases List.mem_append.mp hm with hm | hm
    · obtain ⟨q1, q2, q3⟩ := R.each q hm
      refine ⟨q1, q2, ?_⟩
      rw [upd_ne q1]
      exact s4 _ _ q3
    · rw [List.mem_singleton.mp hm]
      have npo : p ≠ o := (ne_of_none R.lst np).symm
      refine ⟨npo, R.same.free np, ?_⟩
      show upd H4 o _ p = some (.lst (r.map V.int))
      rw [upd_ne npo]
      exact ep
theorem Rows.seqs {K : PySem.W.Frag} {H1 H3 : Hp} {o : Addr} {L : List (Addr × List Int)} (R : Rows H1 H3 o L) : ∀ q ∈ L, SqL K H3 q.1 (q.2.map V.int) := fun q hq => SqL.of (R.each q hq).2.2
theorem cut_to (xs : List V) (k : Nat) : cutV xs none (some (k : Int)) = xs.take k := by
  unfold cutV
  rw [HT.sIx_none, HT.sIx_nat, List.drop_zero, Nat.sub_zero]
  by_cases h : k ≤ xs.length
  · rw [Nat.min_eq_left h]
  · rw [Nat.min_eq_right (by omega), List.take_length, List.take_of_length_le (by omega)]
theorem cut_from (xs : List V) (k : Nat) : cutV xs (some (k : Int)) none = xs.drop k := by
  unfold cutV
  rw [HT.sIx_none, HT.sIx_nat]
  by_cases h : k ≤ xs.length
  · rw [Nat.min_eq_left h, List.take_of_length_le (by rw [List.length_drop]; exact Nat.le_refl _)]
  · rw [Nat.min_eq_right (by omega), Nat.sub_self, List.take_zero, List.drop_of_length_le (by omega)]
theorem cut_set {st : List Int} {k : Nat} (z : Int) (h : k < st.length) : cutV (st.map V.int) none (some (k : Int)) ++ [V.int z] ++ cutV (st.map V.int) (some ((k + 1 : Nat) : Int)) none = (st.set k z).map V.int := by
  rw [cut_to, cut_from, List.set_eq_take_append_cons_drop, if_pos h, List.map_append, List.map_cons, List.map_take, List.map_drop, List.append_assoc]
  rfl
/-! lists of rows compared -/
theorem dpAll_rows {K : PySem.W.Frag} {H : Hp} : ∀ {L : List (Addr × List Int)}, (∀ q ∈ L, SqL K H q.1 (q.2.map V.int)) → DpAll K H (rowV L) ((L.map (·.2)).map fun r => PyData.list (r.map PyData.int))
  | [], _ => .nil
  | q :: L, h => .cons (dp_ints (h q List.mem_cons_self)) (dpAll_rows fun r hr => h r (List.mem_cons_of_mem _ hr))
theorem dp_rows {K : PySem.W.Frag} {H : Hp} {a : Addr} {L : List (Addr × List Int)} (h : SqL K H a (rowV L)) (h2 : ∀ q ∈ L, SqL K H q.1 (q.2.map V.int)) : Dp K H (.ref a) (.list ((L.map (·.2)).map fun r => PyData.list (r.map PyData.int))) := .lst h (dpAll_rows h2)
theorem canLay_rows : ∀ rs : List (List Int), PyData.canLayAll0 (rs.map fun r => PyData.list (r.map PyData.int)) = true
  | [] => by simp [PyData.canLayAll0]
  | r :: rs => by simp [PyData.canLayAll0, PyData.canLay0, canLay_rows rs, PySem.W.canLayAll0_ints r]
theorem depth_rows : ∀ rs : List (List Int), PyData.depthAll (rs.map fun r => PyData.list (r.map PyData.int)) ≤ 3
  | [] => by simp [PyData.depthAll]
  | r :: rs => by
    have h1 := depth_rows rs
    have h2 := PySem.W.depthAll_ints r
    simp only [List.map_cons, PyData.depthAll, PyData.depth]
    omega
theorem shaped_rows (rs : List (List Int)) : SeqAt.shaped (.list (rs.map fun r => PyData.list (r.map PyData.int))) = true := by
  have h1 := depth_rows rs
  have h2 : PyData.depth (.list (rs.map fun r => PyData.list (r.map PyData.int))) ≤ 64 := by simp only [PyData.depth]; omega
  show (PyData.canLay0 (.list (rs.map fun r => PyData.list (r.map PyData.int))) && decide (PyData.depth (.list (rs.map fun r => PyData.list (r.map PyData.int))) ≤ 64)) = true
  rw [Bool.and_eq_true]
  exact ⟨by simp only [PyData.canLay0]; exact canLay_rows rs, decide_eq_true h2⟩
theorem eqv_refl_rows (rs : List (List Int)) : PyData.eqv (.list (rs.map fun r => PyData.list (r.map PyData.int))) (.list (rs.map fun r => PyData.list (r.map PyData.int))) = true :=
  SeqAt.eqv_refl _ (SeqAt.canLay_of_shaped (shaped_rows rs))
end Ww
/-! texts repeated, tuples of lists -/
namespace Ww
open PySem PySem.Spec PyProof.Rows L2
section
variable {X : Cx}
theorem tupleK (K : PySem.W.Frag) (h : X.K = K := by rfl) : CallR X (.type "tuple") (fun xs H Q => ∃ p ys, xs = [.ref p] ∧ ((SqL K H p ys ∧ ∀ l, H l = none → Q (.ref l) (upd H l (.tup ys))) ∨ (SqT K H p ys ∧ Q (.ref p) H))) := by subst h; exact call_tuple_of
/-- a sign, so many times -/
def repS (z : Str) (n : Nat) : Str := ⟨(List.replicate n z.cps).foldl (· ++ ·) #[]⟩
theorem rep_size (a : Array Nat) : ∀ (k : Nat) (acc : Array Nat), ((List.replicate k a).foldl (· ++ ·) acc).size = acc.size + k * a.size
  | 0, acc => by simp
  | k + 1, acc => by
    rw [List.replicate_succ, List.foldl_cons, rep_size a k, Array.size_append, Nat.succ_mul]
    omega
theorem op_repS : OpR X (binaryOp .Mult) (fun x y H Q => ∃ (z : Str) (n : Nat), x = .str z ∧ y = .int n ∧ 2 ≤ n ∧ n ≤ 100000 ∧ z.length = 1 ∧ Q (.str (repS z n)) H) := by
  intro pins s σ H x y v u Q I rx ry h
  obtain ⟨z, n, rfl, rfl, h2, hn, hz, q⟩ := h
  obtain ⟨t, rfl⟩ := rx
  obtain ⟨t', rfl⟩ := ry
  refine P.mul_str ?_ (fun _ _ => ?_) (fun _ _ => ?_) ?_
  · rw [decide_eq_false (by omega), decide_eq_false (by omega)]
    rfl
  · rw [hz]
    have h1 : (1 : Int) ≤ (2 ^ 63 - 1) / (n : Int) := by
      rw [Int.le_ediv_iff_mul_le (by omega)]
      omega
    intro c
    omega
  · rw [hz, Nat.one_mul, Int.toNat_natCast]
    have h1 := le_line hn
    show decide (n > sizeLine) = false
    exact decide_eq_false (by omega)
  · rw [if_neg (by omega), if_neg]
    · rw [Int.toNat_natCast]
      refine ⟨?_, ⟨.str (repS z n), H, I.tok _, ⟨_, rfl⟩, q⟩⟩
      show ((List.replicate n z.cps).foldl (· ++ ·) #[]).size ≤ sizeLine
      have e : z.cps.size = 1 := hz
      rw [rep_size, e]
      exact le_line (by show 0 + n * 1 ≤ 100000; omega)
    · rw [hz]
      intro c
      have : ((n : Int) == 1) = false := by
        rw [beq_eq_false_iff_ne]
        omega
      rw [this] at c
      exact absurd c (by decide)
/-- the rest by a positive number: some number from 0 to below it -/
def rModF : R2 := fun x y H Q => ∃ i j : Int, x = .int i ∧ y = .int j ∧ 0 < j ∧ ∀ z : Int, 0 ≤ z → z < j → Q (.int z) H
theorem op_modF : OpR X (binaryOp .Mod) rModF := by
  intro pins s σ H x y v u Q I rx ry h
  obtain ⟨i, j, rfl, rfl, hj, q⟩ := h
  exact op_mod pins s σ H _ _ v u Q I rx ry ⟨i, j, rfl, rfl, hj, q _ (Int.emod_nonneg _ (by omega)) (Int.emod_lt_of_pos _ hj)⟩
end
theorem cut_around {xs : List V} {z : Int} (y : V) (h0 : 0 ≤ z) (h1 : z < xs.length) : cutV xs none (some z) ++ [y] ++ cutV xs (some (z + 1)) none = xs.set z.toNat y := by
  obtain ⟨k, rfl⟩ : ∃ k : Nat, z = (k : Int) := ⟨z.toNat, by omega⟩
  have h2 : k < xs.length := by omega
  have e : ((k : Int) + 1) = ((k + 1 : Nat) : Int) := rfl
  rw [e, cut_to, cut_from, Int.toNat_natCast, List.set_eq_take_append_cons_drop, if_pos h2, List.append_assoc]
  rfl
theorem all_rep (n : Nat) : (List.replicate n true).all id = true := by
  induction n with
  | zero => rfl
  | succ n ih => rw [List.replicate_succ, List.all_cons, ih]; rfl
theorem rep_len (n : Nat) (y : V) : ((List.replicate n [y]).flatten : List V).length = n := by
  induction n with
  | zero => rfl
  | succ n ih => rw [List.replicate_succ, List.flatten_cons, List.length_append, ih]; show 1 + n = n + 1; omega
/-- what is written of one wheel of 10 ^ 60 - 1 sizes, at its first number -/
def sp_written60 (K : PySem.W.Frag) : Sp := fun vs H Q _ => ∃ a b : Addr, vs = [.ref a, .ref b] ∧ SqL K H a [.int (10 ^ 60 - 1)] ∧ SqL K H b [.int 0] ∧ ∀ H' : Hp, Same H H' → Q (.str (repS "9" 60 ++ ": 0")) H'
end Ww
/-! within an except suite: any(..), isinstance of the held exception, a def that is handed the held exception -/
namespace Ww
open PySem PySem.Spec PyProof.Rows L2 HotX L2H
section
variable {prog : Program} {w : World} {A : Around} {E : Value → Shared → Prop} {s : Shared}
/-- a list's iterator at its end, while an exception is handled -/
theorem next_end_hot {it l x1 : Addr} {i : Nat} {items : Array Value} {Q : Option Value → Shared → Prop} (hot : HotAt A x1 s.heap) (hne : x1 ≠ it)
    (hit : s.heap.IsListIter it l i) (hl : s.heap.IsList l items) (hx : items[i]? = none) (hQ : ∀ h', Heap.ExtBut it s.heap h' → Q none { s with heap := h' }) : wpAny (model prog w) A (pyNext (.ref it)) Q E s := by
  obtain ⟨o, ho, hc, hd⟩ := id hit
  obtain ⟨ol, hol, _, nl, hdl⟩ := hl
  obtain ⟨hh, o1, vs1, h1, d1, c1⟩ := hot
  unfold pyNext
  refine wpAny_bind (wpAny_attempt (wpAny_callSpecial?_slot (name := Str.ofString "__next__") hit.typeIs slot_listiter_next (wpAny_call_entry slot_listiter_next hit.typeIs entry_listiter_next ?_ (args_listiter_next _))))
  show wpAny _ _ (field (.ref it) 0 >>= _) _ _ s; refine wpAny_bind (wpAny_field ho hd (x := .ref l) rfl ?_)
  show wpAny _ _ (if (Value.ref l == Value.none) = true then _ else _) _ _ s; rw [if_neg (show ¬ ((Value.ref l == Value.none) = true) from Bool.false_ne_true)]
  show wpAny _ _ (field (.ref it) 1 >>= _) _ _ s; refine wpAny_bind (wpAny_field ho hd (x := .int i 0) rfl ?_)
  show wpAny _ _ (seqItems? (.ref l) >>= _) _ _ s; refine wpAny_bind (wpAny_seqItems hol hdl ?_)
  simp only [Int.toNat_natCast, hx]
  refine wpAny_bind (wpAny_rule (wpAny_bind (wpAny_setField ho hd (by simp) ?_)))
  have h1' : ∀ f : Obj → Obj, (s.heap.update it f).get? x1 = some o1 := fun f => by rw [Heap.get?_update_other _ _ hne.symm]; exact h1
  show wpAny _ _ (newExc (.type "StopIteration") [] >>= _) _ _ _; refine wpAny_bind ?_
  simp only [newExc, newTuple]; refine wpAny_bind (wpAny_newObj_type ?_ (by size_fits))
  refine wpAny_bind (m := firstArgMember _ _) (wpAny_of_eq (a := Value.none) (by first | rfl | (simp only [firstArgMember]; rfl)) (wpAny_newObj_type ?_ (by size_fits)))
  have hx1 := Heap.get?_push_of_some { cls := .type "tuple", data := .seq #[] } (h1' (Obj.mapFields (·.setIfInBounds 0 .none)))
  refine raiseNew_hot ⟨hh, o1, vs1, Heap.get?_push_of_some _ hx1, d1, c1⟩ (Nat.ne_of_lt (Heap.lt_size hx1)) (Heap.get?_push_size _ rfl) rfl (by simp; omega) ?_
  refine wpAny_bind (wpAny_isInstance (T := "StopIteration") (b := true) ⟨_, Heap.get?_update_self _ (Heap.get?_push_size _ rfl) rfl, rfl⟩ isSubtype_stop (wpAny_pure (hQ _ fun b o hb e => ?_)))
  have e1 : (s.heap.update it (Obj.mapFields (·.setIfInBounds 0 .none))).get? b = some o := by rw [Heap.get?_update_other _ _ (Ne.symm hb)]; exact e
  have e2 := Heap.get?_push_of_some { cls := .type "tuple", data := .seq #[] } e1
  rw [Heap.get?_update_other _ _ (Nat.ne_of_gt (Heap.lt_size e2))]
  exact Heap.get?_push_of_some _ e2
/-- the turns over a list, while an exception is handled: x1 stands beside -/
theorem walks_hot {x1 : Addr} {o1 : Obj} {vs1 : Array Value} (hh : A.handled = some (.ref x1)) (d1 : o1.data = .fields vs1) (c1 : vs1[2]? = some .none) (I ax : Addr) (hne : ax ≠ I) (hx : x1 ≠ I) (items : Array Value) :
    Walks prog w A I [I, ax, x1] [I] items.size (fun i v => items[i]? = some v) (fun i h => h.IsListIter I ax i ∧ h.IsList ax items ∧ h.get? x1 = some o1) where
  sub := fun b hb => by rw [List.mem_singleton.mp hb]; exact List.mem_cons_self
  frame := fun _ _ _ st hk => ⟨st.1.at fun o e => hk I List.mem_cons_self o e, st.2.1.at fun o e => hk ax (List.mem_cons_of_mem _ List.mem_cons_self) o e, hk x1 (List.mem_cons_of_mem _ (List.mem_cons_of_mem _ List.mem_cons_self)) _ st.2.2⟩
  item := fun i s Q E hi st hQ => by
    refine wpAny_pyNext_list_item st.1 st.2.1 (x := items[i]) (Array.getElem?_eq_getElem hi) fun h' hit' hs' => hQ _ h' s.toks (Array.getElem?_eq_getElem hi) ⟨hit', st.2.1.extBut hs'.extBut hne, ?_⟩ fun b o hb e => ?_
    · exact hs'.extBut x1 o1 hx st.2.2
    · exact hs'.extBut b o (fun z => hb (List.mem_singleton.mpr z)) e
  done := fun s Q E st hQ => next_end_hot ⟨hh, o1, vs1, st.2.2, d1, c1⟩ hx st.1 st.2.1 (Array.getElem?_eq_none (Nat.le_refl _)) fun h' he' => hQ h' s.toks fun b o hb e => he' b o (fun z => hb (List.mem_singleton.mpr z)) e
  self := fun _ _ _ _ st hQ => wpAny_pyIter_listiter st.1 hQ
end
/-- any(xs) of a list of truths -/
theorem anyH {X : Cx} (K : PySem.W.Frag) (hc : HotC X) (hK : X.K = K := by rfl) : CallR X (.builtin "any") (rAny K) := by
  subst hK
  intro pins s σ H vs us Q I r h
  obtain ⟨a, bs, rfl, hs, q⟩ := h
  obtain ⟨its, rv, hl, _⟩ := I.list hs
  rw [Vals.ref1 r]
  have hb := rv.bls
  obtain ⟨p, ⟨hh, v1, d1, c1⟩, hp⟩ := hc
  have hget := (I.pin p (List.mem_append_left _ hp)).1
  refine call_any_walk (iter_any hl.isList fun s₂ e2 st hne => ?_)
  subst e2
  have hget2 := Heap.get?_push_of_some { cls := .type "list_iterator", data := .fields #[.ref a, .int 0 0] } hget
  refine ⟨_, _, _, _, _, _, _, rfl, walks_hot (A := X.A.in1) hh d1 c1 _ a hne (Nat.ne_of_lt (Heap.lt_size hget)) its.toArray, ⟨st.1, st.2, hget2⟩, truth_bools hb, fun h' tk hk => ⟨.bl _, H, I.kept fun b o eo => hk b o (fun hmem => ?_) (Heap.get?_push_of_some _ eo), ?_, q⟩⟩
  · exact absurd (List.mem_singleton.mp hmem ▸ Heap.lt_size eo) (Nat.lt_irrefl _)
  · show Value.bool _ = Value.bool _
    rw [← L2.any_range, hb, List.size_toArray, List.length_map]
/-! ### isinstance of the exception that is pinned -/
/-- isinstance(e, c), e the exception at a, of the class cls, whose object stands in the context's pins -/
def rIsP (K : PySem.W.Frag) (a : Addr) (cls : Value) (d : Option Addr) : List V → Hp → VK → Prop := fun xs H Q => ∃ (D : Addr) (c : V) (cv : Value) (b : Bool), cls = .ref D ∧ d = none ∧ ExcC K D ∧ xs = [.ref a, c] ∧ (∀ u, RelV c u → u = cv) ∧ PySem.W.kitOne K (.ref D) cv = some b ∧ Q (.bl b) H
theorem isP {X : Cx} {a : Addr} {oe : Obj} {cls : Value} {d : Option Addr} (K : PySem.W.Frag) (hm : (a, oe) ∈ X.pn) (hz : Zc cls d oe) (hf : ∃ vs, oe.data = .fields vs) (hK : X.K = K := by rfl) : CallR X (.builtin "isinstance") (rIsP K a cls d) := by
  subst hK
  intro pins s σ H xs us Q I r h
  obtain ⟨D, c, cv, b, rfl, rfl, C, rfl, hcv, e, q⟩ := h
  obtain ⟨u1, u2, rfl, r1, r2⟩ := vals2 r
  cases (show u1 = Value.ref a from r1)
  have ec := hcv _ r2
  subst ec
  have hget := (I.pin (a, oe) (List.mem_append_left _ hm)).1
  obtain ⟨vs, hv⟩ := hf
  obtain ⟨oc, od, oda, osl⟩ := oe
  obtain ⟨h1, h2⟩ := hz
  dsimp only at h1 h2 hv
  subst h1 h2 hv
  exact PySem.W.kia_one (PySem.W.handS_kitx_exc C.hg C.hk C.hs C.hd C.ha C.hn C.ht C.hm) I.kIn ⟨hget, rfl, rfl, trivial⟩ e (fun z => nomatch z) fun tk => ⟨.bl b, H, I.kept (t' := tk) fun _ _ z => z, rfl, q⟩
/-- the suite that holds an exception whose context is None -/
theorem hotC_suite {X : Cx} {a : Addr} {oe : Obj} {cls : Value} {d : Option Addr} {pn : List (Addr × Obj)} (hz : L2N.Zn cls d oe) (hf : ∃ vs, oe.data = .fields vs) : HotC (X.suite a ((a, oe) :: pn)) := by
  obtain ⟨vs, hv⟩ := hf
  exact ⟨(a, oe), ⟨rfl, vs, hv, hz.2.2 vs hv⟩, List.mem_cons_self⟩
/-! ### a def that is handed the held exception -/
/-- what the def at f promises when it is called in a suite; p: the exception's address, its object -/
structure FnE (P : Program) (w : World) (K : PySem.W.Frag) (mg : Str → Option Value) (base : Heap) (k : Nat) (f : Addr) (fd : FuncData) (ps : List Str) (sp : Addr → Value → Option Addr → Sp) : Prop where
  len : ∀ a c d vs H Q E, sp a c d vs H Q E → vs.length = ps.length
  run : ∀ (A : Around) (outer : List Env) (s : Shared) (H : Hp) (args : Args) (us : List Value) (vs : List V) (Q : VK) (E : XK) (p : Addr × Obj) (c : Value) (d : Option Addr), RoomH k A → PinOk outer H s p → Zc c d p.2 → (∃ vs, p.2.data = .fields vs) → Env0 P w K mg base A outer s H → BindsTo s fd args (ps.zip us) → Vals vs us → sp p.1 c d vs H Q E →
    codeAny (model P w) A (.call (.ref f) args) (CR CX0 outer P w H s Q E) s
structure OkE (P : Program) (w : World) (K : PySem.W.Frag) (mg : Str → Option Value) (base : Heap) (x : Str) (ps : List Str) (k : Nat) (sp : Addr → Value → Option Addr → Sp) : Prop where
  ex : ∃ (f : Addr) (fd : FuncData), mg x = some (.ref f) ∧ PySem.W.keepIn K (.ref f) = true ∧ Binds K fd ps [] ∧ FnE P w K mg base k f fd ps sp
theorem Df.okE {P : Program} {w : World} {K : PySem.W.Frag} {mg : Str → Option Value} {base : Heap} {x : Str} {st : Stmt} {N ps : List Str} {k : Nat} {sp : Addr → Value → Option Addr → Sp} (D : Df K mg x st ps) (S : FnScope N ps (defScope st)) (len : ∀ a c d vs H Q E, sp a c d vs H Q E → vs.length = ps.length)
    (hbody : ∀ (f : Addr) (cdv : Value) (A : Around) (outer : List Env) (s : Shared) (H : Hp) (vs : List V) (Q : VK) (E : XK) (p : Addr × Obj) (c : Value) (d : Option Addr), RoomH k (A.deeper (envOfC x (defScope st) s.heap.objs.size f cdv)) → Zc c d p.2 → (∃ vs, p.2.data = .fields vs) → sp p.1 c d vs H Q E →
      ∃ t, PSs (cxH CX0 P w K mg base N x (defScope st) f cdv A outer s H E p) (defBody st) t ∧ t { nx := fun _ H' => Q .non H', rt := Q } (L2.start N vs) H) : OkE P w K mg base x ps (k + 1) sp := by
  obtain ⟨f, fd, F, g, b⟩ := D
  refine ⟨f, fd, g, F.kp, b, len, fun A outer s H args us vs Q E p c d hr hpin hz hf e0 hb r hsp => ?_⟩
  obtain ⟨oc, od, kV, doc, pm, an, cdv, ct, osl, rfl, lk, hcd⟩ := F.ex
  have kk : ∀ c o, base.get? c = some o → s.heap.get? c = some o := fun c o e => (e0.bs c o e).1
  have KX : K.In s.heap := e0.mod.kin.keeps kk
  have lim : s.heap.NoLimit := e0.mod.nolimit.keeps kk
  obtain ⟨t, ht, hq⟩ := hbody f cdv A outer s H vs Q E p c d (hr.deeper _) hz hf hsp
  refine codeAny_call_function hr.depth (KX _ _ lk) rfl S.co S.gen rfl (PySem.W.codeRec_of KX hcd) (hb _ _ _ _ (wpAny_newFunctionEnv_cells S.kind (fun ⟨n, v⟩ hy => ?_) fun env he s1 x1 => ?_))
  · rcases S.par n (List.of_mem_zip hy).1 with q | q
    · exact .inl q
    · exact .inr ⟨q, PySem.W.cellsFrom_some _ _ _ (.inl q)⟩
  · subst he
    have I : Inv (cxH CX0 P w K mg base N x (defScope st) f cdv A outer s H E p) [] (L2.start N vs) H s1 := inv_startH S hpin e0 (len _ _ _ _ _ _ _ hsp) r x1
    refine ⟨lim.keeps x1.toInCall.keep, codeAny_func (wpAny_mono (ht.run [] s1 (L2.start N vs) H _ I hq) (fun fl s' hs => ?_) fun e s' hs => hs)⟩
    have fin : ∀ {σ' : L2.St} {H' : Hp} {v : V} {u : Value}, Inv (cxH CX0 P w K mg base N x (defScope st) f cdv A outer s H E p) [] σ' H' s' → RelV v u → Q v H' → CE outer P w H s Q u s' := fun {σ' H' v u} J rv q => ⟨v, H', J.os, J.bare, J.base, J.hok, rv, q⟩
    match fl, hs with
    | .ret u, ⟨v, σ', H', J, rv, q⟩ => exact fin J rv q
    | .next, ⟨σ', H', J, q⟩ => exact fin (v := V.non) (u := Value.none) J rfl q
    | .brk, ⟨_, _, _, q⟩ => exact False.elim q
    | .cont, ⟨_, _, _, q⟩ => exact False.elim q
/-- its call in the suite -/
theorem pe_okE {X : Cx} {x : Str} {ps : List Str} {k j : Nat} {sp : Addr → Value → Option Addr → Sp} {e : Expr} {es : List Expr} {t : TA} {q pos : Pos} {c : Value} {d : Option Addr} (p : Addr × Obj) (C : OkE X.prog X.w X.K X.mg X.base x ps k sp) (hr : RoomH j X.A) (hk : k ≤ j) (hp : p ∈ X.pn) (hz : Zc c d p.2) (hf : ∃ vs, p.2.data = .fields vs) (ha : PA X (e :: es) t) (hg : Gl X x := by rfl)
    (hdb : (x == ("__debug__" : Str)) = false := by decide) (he : starEach (e :: es) X.env = (false, eval e X.env) :: starEach es X.env := by rfl) (hpl : (backTo pos (starEach es X.env)).any (·.1) = false := by rfl) :
    PE X (.Call (.Name x q) (e :: es) [] pos) (tCall (sp p.1 c d) [] E0 t) := by
  obtain ⟨f, fd, g, kp, b, F⟩ := C.ex
  refine ⟨fun pins s σ H Q I h => wpAny_Call_Name_kw (ld_glob I hg g (PySem.W.callWith_K (h₀ := X.base) I.ok.mod.kin kp (thn (ha.run pos pins s σ H _ I h) fun us s1 ⟨vs, H1, I1, r, q⟩ => ⟨I1.kIn, ?_⟩) he hpl) hdb)⟩
  have q : sp p.1 c d vs H1 Q E0 := by
    have q2 : sp p.1 c d (vs ++ []) H1 Q E0 := q
    rw [List.append_nil] at q2
    exact q2
  have hl : us.length = ps.length := by rw [← r.length]; exact F.len _ _ _ _ _ _ _ q
  have bb := b s1 us I1.kIn (by rw [List.append_nil]; exact hl)
  rw [List.append_nil] at bb
  obtain ⟨z1, z2, z3, z4, z5⟩ := I1.pin p (List.mem_append_left _ hp)
  have hpin : PinOk X.stack H1 s1 p := ⟨z1, z2, fun hm => (List.mem_cons.mp (I1.stkSub p.1 hm)).elim z3 z4, z5⟩
  refine wpAny_call (codeAny_mono (F.run X.A X.stack s1 H1 ⟨us, []⟩ us vs Q E0 p c d (hr.mono hk) hpin hz hf I1.env0 bb r q) fun r s' hq => ?_)
  match r, hq with
  | .error _, hq => exact False.elim hq
  | .ok (.ret u), hq => exact I1.after hq
  | .ok .next, hq => exact False.elim hq
  | .ok .brk, hq => exact False.elim hq
  | .ok .cont, hq => exact False.elim hq
/-- nothing is let out -/
theorem takesN0 {X : Cx} : L2N.Takes X (fun _ _ _ _ => False) := fun _ _ x => by
  obtain ⟨_, _, _, _, _, _, _, _, _, _, _, _, _, _, _, _, z⟩ := x
  exact z.elim
end Ww
/-! defs that raise an own error (its context None), what is refused: values of any kind -/
namespace Ww
open PySem PySem.Spec PyProof.Rows L2
abbrev OkX (P : Program) (w : World) (K : PySem.W.Frag) (mg : Str → Option Value) (base : Heap) (x : Str) (ps : List Str) (k : Nat) (sp : Sp) : Prop := OkC P w K mg base (L2N.CX P w) x ps k sp
theorem Df.okX {P : Program} {w : World} {K : PySem.W.Frag} {mg : Str → Option Value} {base : Heap} {x : Str} {st : Stmt} {N ps : List Str} {k : Nat} {sp : Sp} (D : Df K mg x st ps) (S : FnScope N ps (defScope st)) (len : ∀ vs H Q E, sp vs H Q E → vs.length = ps.length)
    (hbody : ∀ (f : Addr) (cdv : Value) (A : Around) (outer : List Env) (s : Shared) (H : Hp) (vs : List V) (Q : VK) (E : XK), Room k (A.deeper (envOfC x (defScope st) s.heap.objs.size f cdv)) → sp vs H Q E →
      ∃ t, PSs (cxOf (L2N.CX P w) P w K mg base N x (defScope st) f cdv A outer s H E) (defBody st) t ∧ t { nx := fun _ H' => Q .non H', rt := Q } (start N vs) H) : OkX P w K mg base x ps (k + 1) sp := by
  obtain ⟨f, fd, F, g, b⟩ := D
  obtain ⟨oc, od, kV, doc, pm, an, cdv, ct, osl, rfl, lk, hcd⟩ := F.ex
  exact ⟨f, _, g, F.kp, b, fn_of lk hcd S len fun A outer s H vs Q E hr hsp => hbody f cdv A outer s H vs Q E hr hsp⟩
/-- the call of a def that may raise, in a def that lets it out -/
theorem pe_okX {X : Cx} {x : Str} {ps : List Str} {k j : Nat} {sp : Sp} {E : XK} {e : Expr} {es : List Expr} {t : TA} {p pos : Pos} (C : OkX X.prog X.w X.K X.mg X.base x ps k sp) (hr : Room j X.A) (hk : k ≤ j) (hx : Passes (L2N.CX X.prog X.w) X E) (ha : PA X (e :: es) t) (hg : Gl X x := by rfl)
    (hdb : (x == ("__debug__" : Str)) = false := by decide) (he : starEach (e :: es) X.env = (false, eval e X.env) :: starEach es X.env := by rfl) (hpl : (backTo pos (starEach es X.env)).any (·.1) = false := by rfl) :
    PE X (.Call (.Name x p) (e :: es) [] pos) (tCall sp [] E t) := by
  obtain ⟨f, fd, g, kp, b, F⟩ := C.ex
  exact pe_call F (hr.mono hk) hg g kp b .nil hx ha hdb he hpl
/-- the same within a try: what is wished of an error hangs on the slots -/
theorem pe_okS {X : Cx} {x : Str} {ps : List Str} {k j : Nat} {sp : Sp} {W : WX} {e : Expr} {es : List Expr} {t : TA} {p pos : Pos} (C : OkX X.prog X.w X.K X.mg X.base x ps k sp) (hr : Room j X.A) (hk : k ≤ j) (tk : L2N.Takes X W) (ha : PA X (e :: es) t) (hg : Gl X x := by rfl)
    (hdb : (x == ("__debug__" : Str)) = false := by decide) (he : starEach (e :: es) X.env = (false, eval e X.env) :: starEach es X.env := by rfl) (hpl : (backTo pos (starEach es X.env)).any (·.1) = false := by rfl) :
    PE X (.Call (.Name x p) (e :: es) [] pos) (tCallS sp (WE W) t) := by
  obtain ⟨f, fd, g, kp, b, F⟩ := C.ex
  exact pe_callS F (hr.mono hk) hg g kp b (fun σ => L2N.passAt tk σ) ha hdb he hpl
/-- a local name that holds a def, called within a try: the reading tells which def -/
def tCallLS (P : Program) (w : World) (K : PySem.W.Frag) (mg : Str → Option Value) (base : Heap) (j i : Nat) (W : WX) (t : TA) : TE := fun σ H Q => ∃ (f : Addr) (fd : FuncData) (ps : List Str) (k : Nat) (sp : Sp), σ[i]? = some (some (.ref f)) ∧ k ≤ j ∧ PySem.W.keepIn K (.ref f) = true ∧ Binds K fd ps [] ∧
  FnOk P w K mg base (L2N.CX P w) k f fd ps sp ∧ t σ H fun vs H1 => sp vs H1 Q (WE W σ)
theorem pe_okL {X : Cx} {x : Str} {i j : Nat} {W : WX} {e : Expr} {es : List Expr} {t : TA} {p pos : Pos} (hr : Room j X.A) (tk : L2N.Takes X W) (hN : X.N[i]? = some x) (hv : Vis X.env.scope x) (ha : PA X (e :: es) t)
    (hdb : (x == ("__debug__" : Str)) = false := by decide) (hcd : (x == ("__classdict__" : Str)) = false := by decide)
    (he : starEach (e :: es) X.env = (false, eval e X.env) :: starEach es X.env := by rfl) (hpl : (backTo pos (starEach es X.env)).any (·.1) = false := by rfl) :
    PE X (.Call (.Name x p) (e :: es) [] pos) (tCallLS X.prog X.w X.K X.mg X.base j i W t) := by
  refine ⟨fun pins s σ H Q I h => ?_⟩
  obtain ⟨f, fd, ps, k, sp, hσ, hk, kp, b, F, h⟩ := h
  refine wpAny_Call_Name_kw (thn ((pe_var (X := X) (pos := p) hN hv hdb hcd).run pins s σ H (fun v H1 => v = .ref f ∧ H1 = H) I ⟨_, hσ, rfl, rfl⟩) fun u s1 hu => ?_)
  obtain ⟨v, H1, I1, r1, rfl, rfl⟩ := hu
  cases r1
  refine PySem.W.callWith_K (h₀ := X.base) I.ok.mod.kin kp (thn (ha.run pos pins s1 σ _ _ I1 h) fun us s2 hz => ?_) he hpl
  obtain ⟨vs, H2, I2, r, q⟩ := hz
  exact ⟨I2.kIn, run_fnS F (hr.mono hk) b (L2N.passAt tk σ) I2 r q⟩
theorem pe_okLP (P : Program) (w : World) (K : PySem.W.Frag) (mg : Str → Option Value) (base : Heap) {X : Cx} {x : Str} {i j : Nat} {W : WX} {e : Expr} {es : List Expr} {t : TA} {p pos : Pos} (hr : Room j X.A) (tk : L2N.Takes X W) (hN : X.N[i]? = some x) (hv : Vis X.env.scope x) (ha : PA X (e :: es) t)
    (h1 : X.prog = P := by rfl) (h2 : X.w = w := by rfl) (h3 : X.K = K := by rfl) (h4 : X.mg = mg := by rfl) (h5 : X.base = base := by rfl)
    (hdb : (x == ("__debug__" : Str)) = false := by decide) (hcd : (x == ("__classdict__" : Str)) = false := by decide)
    (he : starEach (e :: es) X.env = (false, eval e X.env) :: starEach es X.env := by rfl) (hpl : (backTo pos (starEach es X.env)).any (·.1) = false := by rfl) :
    PE X (.Call (.Name x p) (e :: es) [] pos) (tCallLS P w K mg base j i W t) := by
  subst h1 h2 h3 h4 h5
  exact pe_okL hr tk hN hv ha hdb hcd he hpl
/-- try, with one clause 'except c as n', that lets nothing out -/
def tTryA (K : PySem.W.Frag) (c : Value) (i : Nat) (ts : Addr → Value → Option Addr → TS) (tb : WX → TS) : TS := fun D σ H => tb (wAs K c i ts (fun _ _ _ _ => False) D) D σ H
theorem ps_tryA {X : Cx} {x n : Str} {c : Value} {i : Nat} {body suite : List Stmt} {b₀ : Stmt} {np pos pos' : Pos} {tb : WX → TS} {ts : Addr → Value → Option Addr → TS} (hs : X.stack = X.env :: X.outer) (hf : X.env.frame = some X.env.locals) (hN : X.N.Nodup) (hi : X.N[i]? = some n) (hln : X.env.kindOf n = some .local) (hc : Names X x c)
    (hb : ∀ (W : WX) (pn : List (Addr × Obj)) (xe : Value → Shared → Prop), L2N.Takes (X.tr pn xe) W → PassesOwn (model X.prog X.w) X.A X.env xe → PSs (X.tr pn xe) body (tb W))
    (hsu : ∀ (a : Addr) (oe : Obj) (cls : Value) (d : Option Addr) (pn : List (Addr × Obj)), L2N.Zn cls d oe → (∃ vs, oe.data = .fields vs) → PSs (X.suite a ((a, oe) :: pn)) (b₀ :: suite) (ts a cls d)) :
    PS X (.Try body [.ExceptHandler (some (.Name x np)) (some n) (b₀ :: suite) pos'] [] [] pos) (tTryA X.K c i ts tb) := L2N.ps_try_as hs hf hN hi hln hc takesN0 hb hsu
/-! ### the errors -/
/-- an own error class, straight or not under ValueError, as the top has left it -/
structure Err (K : PySem.W.Frag) (mg : Str → Option Value) (x : Str) (C : Addr) : Prop where
  g : mg x = some (.ref C)
  kp : PySem.W.keepIn K (.ref C) = true
  ex : PySem.W.excIn K C [.type "ValueError", .type "Exception", .type "BaseException", .type "object"] "ValueError.__new__" = true
  sub : PySem.W.subIn K (.ref C) (.type "BaseException") = some true
  ty : PySem.W.typeIn K (.ref C) = some (.type "type")
  C : ExcC K C
/-- raise X('..') -/
theorem ps_err {X : Cx} {W : WX} {x m : Str} {C : Addr} {j : Nat} {p p2 pos pos2 : Pos} (T : Err X.K X.mg x C) (hc : X.calm = true) (tk : L2N.Takes X W) (hg : Gl X x := by rfl) (hdb : (x == ("__debug__" : Str)) = false := by decide) :
    PS X (.Raise (some (.Call (.Name x p) [.Constant (.str m) j p2] [] pos)) none pos2) (fun _ σ H => W (.ref C) none σ H) :=
  L2N.ps_raise hc tk (L2N.pmk_own PySem.F.excBase_ValueError T.ex T.g T.kp (raises_own T.sub T.ty) hg hdb)
/-! ### values of any kind -/
theorem tyx_same {K : PySem.W.Frag} {H H' : Hp} {x : V} {t : Value} (h : TyX K H x t) (s : Same H H') : TyX K H' x t := by
  cases h with
  | base b =>
    cases b with
    | non => exact .base .non
    | bl y => exact .base (.bl y)
    | int i => exact .base (.int i)
    | str y => exact .base (.str y)
    | flt y => exact .base (.flt y)
    | lst e => exact .base (.lst (s _ _ e))
    | frz e => exact .base (.frz (s _ _ e))
    | tup e => exact .base (.tup (s _ _ e))
    | dK e => exact .base (.dK (s _ _ e))
    | dT e => exact .base (.dT (s _ _ e))
    | ins e cl ha hn htk hm => exact .base (.ins (s _ _ e) cl ha hn htk hm)
  | byt b => exact .byt b
  | set e => exact .set (s _ _ e)
  | kList e c => exact .kList e c
  | kTuple e c => exact .kTuple e c
  | kDict e c => exact .kDict e c
  | fTuple e => exact .fTuple (s _ _ e)
  | fDict e => exact .fDict (s _ _ e)
/-- no whole number -/
def NoInt (K : PySem.W.Frag) (H : Hp) (v : V) : Prop := ∃ (t : String) (b1 b2 : Bool), TyX K H v (.type t) ∧ kitB t "int" = some b1 ∧ kitB t "bool" = some b2 ∧ (b1 && !b2) = false
/-- no list -/
def NoList (K : PySem.W.Frag) (H : Hp) (v : V) : Prop := ∃ t : String, TyX K H v (.type t) ∧ kitB t "list" = some false
/-- an int, or something else that the classes tell -/
def Cl (K : PySem.W.Frag) (H : Hp) (v : V) : Prop := (∃ z : Int, v = .int z) ∨ NoInt K H v
theorem NoInt.same {K : PySem.W.Frag} {H H' : Hp} {v : V} (h : NoInt K H v) (s : Same H H') : NoInt K H' v := by
  obtain ⟨t, b1, b2, h1, h2⟩ := h
  exact ⟨t, b1, b2, tyx_same h1 s, h2⟩
theorem NoList.same {K : PySem.W.Frag} {H H' : Hp} {v : V} (h : NoList K H v) (s : Same H H') : NoList K H' v := by
  obtain ⟨t, h1, h2⟩ := h
  exact ⟨t, tyx_same h1 s, h2⟩
theorem Cl.same {K : PySem.W.Frag} {H H' : Hp} {v : V} (h : Cl K H v) (s : Same H H') : Cl K H' v := by
  rcases h with h | h
  · exact .inl h
  · exact .inr (h.same s)
theorem noInt_non {K : PySem.W.Frag} {H : Hp} : NoInt K H .non := ⟨"NoneType", false, false, .base .non, by decide +kernel, by decide +kernel, rfl⟩
theorem noInt_bl {K : PySem.W.Frag} {H : Hp} (b : Bool) : NoInt K H (.bl b) := ⟨"bool", true, true, .base (.bl b), by decide +kernel, by decide +kernel, rfl⟩
theorem noInt_str {K : PySem.W.Frag} {H : Hp} (z : Str) : NoInt K H (.str z) := ⟨"str", false, false, .base (.str z), by decide +kernel, by decide +kernel, rfl⟩
theorem noInt_list {K : PySem.W.Frag} {H : Hp} {a : Addr} {xs : List V} (h : SqL K H a xs) : NoInt K H (.ref a) := ⟨"list", false, false, tyx_list h, by decide +kernel, by decide +kernel, rfl⟩
theorem noList_non {K : PySem.W.Frag} {H : Hp} : NoList K H .non := ⟨"NoneType", .base .non, by decide +kernel⟩
theorem noList_bl {K : PySem.W.Frag} {H : Hp} (b : Bool) : NoList K H (.bl b) := ⟨"bool", .base (.bl b), by decide +kernel⟩
theorem noList_int {K : PySem.W.Frag} {H : Hp} (i : Int) : NoList K H (.int i) := ⟨"int", .base (.int i), by decide +kernel⟩
theorem noList_str {K : PySem.W.Frag} {H : Hp} (z : Str) : NoList K H (.str z) := ⟨"str", .base (.str z), by decide +kernel⟩
theorem noList_tup {K : PySem.W.Frag} {H : Hp} {a : Addr} {xs : List V} (h : H a = some (.tup xs)) : NoList K H (.ref a) := ⟨"tuple", .base (.tup h), by decide +kernel⟩
theorem noList_dict {K : PySem.W.Frag} {H : Hp} {a : Addr} {kvs : List (Key × V)} (h : H a = some (.dK kvs)) : NoList K H (.ref a) := ⟨"dict", .base (.dK h), by decide +kernel⟩
/-- no wheels -/
def BadW (K : PySem.W.Frag) (H : Hp) (v : V) : Prop := NoList K H v ∨ ∃ (a : Addr) (xs : List V), v = .ref a ∧ SqL K H a xs ∧ (∀ x ∈ xs, Cl K H x) ∧ ∃ x ∈ xs, ∀ z : Int, x = .int z → z < 1
/-- no setting of the wheels ws -/
def BadS (K : PySem.W.Frag) (H : Hp) (ws : List Int) (v : V) : Prop := NoList K H v ∨ ∃ (a : Addr) (xs : List V), v = .ref a ∧ SqL K H a xs ∧
  (xs.length ≠ ws.length ∨ (xs.length = ws.length ∧ (∀ x ∈ xs, Cl K H x) ∧ ∃ (i : Nat) (x : V) (s : Int), xs[i]? = some x ∧ ws[i]? = some s ∧ ∀ z : Int, x = .int z → ¬ (0 ≤ z ∧ z < s)))
/-- no number below many -/
def BadN (K : PySem.W.Frag) (H : Hp) (many : Int) (v : V) : Prop := NoInt K H v ∨ ∃ z : Int, v = .int z ∧ ¬ (0 ≤ z ∧ z < many)
theorem BadW.same {K : PySem.W.Frag} {H H' : Hp} {v : V} (h : BadW K H v) (s : Same H H') : BadW K H' v := by
  rcases h with h | ⟨a, xs, e, h1, h2, h3⟩
  · exact .inl (h.same s)
  · exact .inr ⟨a, xs, e, s.seq h1, fun x hx => (h2 x hx).same s, h3⟩
theorem BadS.same {K : PySem.W.Frag} {H H' : Hp} {ws : List Int} {v : V} (h : BadS K H ws v) (s : Same H H') : BadS K H' ws v := by
  rcases h with h | ⟨a, xs, e, h1, h2⟩
  · exact .inl (h.same s)
  · refine .inr ⟨a, xs, e, s.seq h1, ?_⟩
    rcases h2 with h2 | ⟨h2, h3, h4⟩
    · exact .inl h2
    · exact .inr ⟨h2, fun x hx => (h3 x hx).same s, h4⟩
theorem BadN.same {K : PySem.W.Frag} {H H' : Hp} {many : Int} {v : V} (h : BadN K H many v) (s : Same H H') : BadN K H' many v := by
  rcases h with h | h
  · exact .inl (h.same s)
  · exact .inr h
/-- there is no ring of all settings -/
def noRing (ws : List Int) : Prop := ¬ (prd ws % 2 = 0 ∧ 2 ≤ (ws.filter fun s => decide (1 < s)).length)
instance (ws : List Int) : Decidable (noRing ws) := inferInstanceAs (Decidable (¬ _))
def sp_no_ring (K : PySem.W.Frag) (PT CR : Addr) : Sp := fun vs H _ E => ∃ (a : Addr) (u : V) (ws : List Int), vs = [.ref a, u] ∧ GxR.TabG H PT ∧ SqL K H a (ws.map V.int) ∧ sizes ws ∧ ws.length ≤ 63 ∧ noRing ws ∧ ∀ H' : Hp, Same H H' → E (.ref CR) none H'
/-- a state without one place, which changes while all else stays -/
def off (H : Hp) (q : Addr) : Hp := fun b => if b = q then none else H b
theorem off_same {H : Hp} {q : Addr} : Same (off H q) H := fun b o e => by
  unfold off at e
  split at e
  · cases e
  · exact .self e
theorem off_upd {H : Hp} {q : Addr} {o : HO} : off (upd H q o) q = off H q := funext fun b => by
  unfold off
  split
  · rfl
  · rename_i h
    exact upd_ne h
theorem off_of {H : Hp} {q p : Addr} {o : HO} (e : H p = some o) (h : p ≠ q) : off H q p = some o := by
  unfold off
  rw [if_neg h]
  exact e
theorem off_mono {H H' : Hp} {q : Addr} (s : Same H H') : Same (off H q) (off H' q) := fun b o e => by
  by_cases h : b = q
  · unfold off at e
    rw [if_pos h] at e
    cases e
  · unfold off at e
    rw [if_neg h] at e
    unfold off
    rw [if_neg h]
    exact s b o e
theorem same_off {H H' : Hp} {q : Addr} (s : Same H H') (n : H q = none) : Same H (off H' q) := fun b o e => by
  unfold off
  rw [if_neg (ne_of_none e n)]
  exact s b o e
/-- over a place that changes meanwhile -/
theorem Same.over {H V W X : Hp} {x : Addr} (s : Same H V) (n : V x = none) (u : Same V W) (sx : Same (off W x) (off X x)) : Same H X := (same_off (s.trans u) (s.free n)).trans (sx.trans off_same)
end Ww
namespace Ww
open PySem PySem.Spec PyProof.Rows L2
section
variable {P : Program} {w : World} {K : PySem.W.Frag} {mg : Str → Option Value} {base : Heap}
/-! ### _law_cell_at: some number -/
def sp_cell_at (K : PySem.W.Frag) : Sp := fun vs H Q _ => ∃ (a : Addr) (ns : List Int) (k : Nat), vs = [.ref a, .int k] ∧ SqL K H a (ns.map V.int) ∧ ∀ z : Int, Q (.int z) H
theorem ok_cell_at (D : Df K mg "_law_cell_at" s_law_cell_at ["_law_script", "_law_k"]) (B : Bi mg) : Ok P w K mg base "_law_cell_at" ["_law_script", "_law_k"] 1 (sp_cell_at K) := by
  refine D.ok sc_law_cell_at (fun vs H Q E h => ?_) (fun f cdv A outer s H vs Q E hr h => ?_)
  · obtain ⟨a, ns, k, rfl, _⟩ := h
    rfl
  · obtain ⟨a, ns, k, rfl, hS, q⟩ := h
    refine ⟨_, (pss_cons (ps_if (pt_cmpR op_lt (pv 1) (pe_callB (lenK K) (by rfl) B.len PySem.boot_len (pa_cons (pv 0) pa_nil)) (nomark _))
        (pss_one (ps_ret (pe_ix (ixL K) (pv 0) (pv 1) (fun _ _ => rfl))))
        pss_nil)
      (pss_one (ps_ret pe_int))), ?_⟩
    walk_at "w"
    refine ⟨a, _, rfl, .inl hS, ?_⟩
    walk_at "w"
    refine ite2 (fun c => ?_) (fun _ => q _)
    have c2 : k < ns.length := by
      have := of_decide_eq_true c
      rw [List.length_map] at this
      omega
    walk_at "w"
    exact ⟨a, _, _, _, rfl, rfl, hS, atI_nat (at_map_int (List.getElem?_eq_getElem c2)), q _⟩
/-! ### _law_draw: some number from 0 to one below the most -/
def primes : List Int := [1000003, 1000033, 1000037, 1000039, 1000081, 1000099, 1000117, 1000121, 1000133, 1000151, 1000159, 1000171, 1000183, 1000187, 1000193, 1000199]
theorem primes_pos : ∀ z ∈ primes, 0 < z := by decide
def sp_draw : Sp := fun vs H Q _ => ∃ c k m : Int, vs = [.int c, .int k, .int m] ∧ 0 < m ∧ ∀ (z : Int) (H' : Hp), 0 ≤ z → z < m → Same H H' → Q (.int z) H'
theorem ok_draw (D : Df K mg "_law_draw" s_law_draw ["_law_cell", "_law_k", "_law_many"]) (B : Bi mg) : Ok P w K mg base "_law_draw" ["_law_cell", "_law_k", "_law_many"] 1 sp_draw := by
  refine D.ok sc_law_draw (fun vs H Q E h => ?_) (fun f cdv A outer s H vs Q E hr h => ?_)
  · obtain ⟨c, k, m, rfl, _⟩ := h
    rfl
  · obtain ⟨c, k, m, rfl, hm, q⟩ := h
    refine ⟨_, (pss_cons (ps_set (i := 3) sc_law_draw.nd rfl (.inl rfl) (pe_tup (pa_cons pe_int (pa_cons pe_int (pa_cons pe_int (pa_cons pe_int (pa_cons pe_int (pa_cons pe_int (pa_cons pe_int (pa_cons pe_int (pa_cons pe_int (pa_cons pe_int (pa_cons pe_int (pa_cons pe_int (pa_cons pe_int (pa_cons pe_int (pa_cons pe_int (pa_cons pe_int pa_nil))))))))))))))))))
      (pss_one (ps_ret (pe_op op_mod (pe_op op_mod (pe_op op_add (pe_op op_mul (pv 0) pe_int) (pe_op op_mul (pv 1) pe_int)) (pe_ix (ixT K) (pv 3) (pe_op op_mod (pv 1) pe_int) (fun _ _ => rfl))) (pv 2))))), ?_⟩
    refine ⟨by show 16 ≤ sizeLine; decide, fun p np => ?_⟩
    refine ⟨_, rfl, _, _, rfl, rfl, .inr ⟨by decide, by decide⟩, _, rfl, _, _, rfl, rfl, .inr ⟨by decide, by decide⟩, _, _, rfl, rfl, _, rfl, _, rfl, _, _, rfl, rfl, by show (0 : Int) < 16; decide, ?_⟩
    have h0 : 0 ≤ k % 16 := Int.emod_nonneg _ (by decide)
    have h1 : k % 16 < 16 := Int.emod_lt_of_pos _ (by decide)
    obtain ⟨j, ej⟩ : ∃ j : Nat, k % 16 = (j : Int) := ⟨(k % 16).toNat, by omega⟩
    have hj : j < primes.length := by show j < 16; omega
    have hp : 0 < primes[j] := primes_pos _ (List.getElem_mem hj)
    have hi : (primes.map V.int)[j]? = some (V.int primes[j]) := at_map_int (List.getElem?_eq_getElem hj)
    refine ⟨p, primes.map V.int, _, _, rfl, rfl, SqT.of upd_same, at_of ej hi, _, _, rfl, rfl, hp, _, rfl, _, _, rfl, rfl, hm, ?_⟩
    exact q _ _ (Int.emod_nonneg _ (by omega)) (Int.emod_lt_of_pos _ hm) (same_upd np)
/-! ### _law_wheels: some sizes, one for each number -/
def kinds : List Int := [4, 2, 9, 40, 3, 1]
theorem kinds_in : ∀ z ∈ kinds, 0 < z ∧ z ≤ 40 := by decide
def sp_wheels (K : PySem.W.Frag) : Sp := fun vs H Q _ => ∃ (a : Addr) (ns : List Int), vs = [.ref a] ∧ SqL K H a (ns.map V.int) ∧ ns.length ≤ 63 ∧
  ∀ (ws : List Int) (p : Addr) (H' : Hp), sizes ws → ws.length = ns.length → Same H H' → H p = none → H' p = some (.lst (ws.map V.int)) → Q (.ref p) H'
theorem ok_wheels (D : Df K mg "_law_wheels" s_law_wheels ["_law_script"]) (B : Bi mg) (G_law_cell_at : Ok P w K mg base "_law_cell_at" ["_law_script", "_law_k"] 1 (sp_cell_at K))
    (G_law_draw : Ok P w K mg base "_law_draw" ["_law_cell", "_law_k", "_law_many"] 1 sp_draw) : Ok P w K mg base "_law_wheels" ["_law_script"] 2 (sp_wheels K) := by
  refine D.ok sc_law_wheels (fun vs H Q E h => ?_) (fun f cdv A outer s H vs Q E hr h => ?_)
  · obtain ⟨a, ns, rfl, _⟩ := h
    rfl
  · obtain ⟨a, ns, rfl, hS, hlen, q⟩ := h
    refine ⟨_, (pss_cons (ps_set (i := 0) sc_law_wheels.nd rfl (.inl rfl) (pe_slice (slL K) (pv 0) po_none (po_some pe_int)))
      (pss_cons (ps_set (i := 1) sc_law_wheels.nd rfl (.inl rfl) (pe_ok G_law_draw hr (by decide) (pa_cons (pe_ok G_law_cell_at hr (by decide) (pa_cons (pv 0) (pa_cons pe_int pa_nil))) (pa_cons pe_int (pa_cons pe_int pa_nil)))))
      (pss_cons (ps_set (i := 2) sc_law_wheels.nd rfl (.inl rfl) (pe_lst pa_nil))
      (pss_cons (ps_for PassesOwn.never rfl (pi_range1 (by rfl) B.range (pa_cons (pe_callB (lenK K) (by rfl) B.len PySem.boot_len (pa_cons (pv 0) pa_nil)) pa_nil)) (pg_name (i := 3) sc_law_wheels.nd rfl (.inl rfl))
        (pss_cons (ps_set (i := 4) sc_law_wheels.nd rfl (.inl rfl) (pe_op op_add pe_int (pe_ok G_law_draw hr (by decide) (pa_cons (pe_ix (ixL K) (pv 0) (pv 3) (fun _ _ => rfl)) (pa_cons (pe_op op_add (pe_op op_mod (pv 3) pe_int) pe_int) (pa_cons (pe_ix (ixT K) (pe_tup (pa_cons pe_int (pa_cons pe_int (pa_cons pe_int (pa_cons pe_int (pa_cons pe_int (pa_cons pe_int pa_nil))))))) (pv 1) (fun _ _ => rfl)) pa_nil))))))
        (pss_cons (ps_if (pt_cmpR op_eq (pv 1) pe_int (nomark _))
          (pss_one (ps_set (i := 4) sc_law_wheels.nd rfl (.inl rfl) (pe_op op_add (pe_op op_mul (pe_op op_fdiv (pv 4) pe_int) pe_int) pe_int)))
          pss_nil)
        (pss_cons (ps_if (PW.pt (pw_and (pt_cmpR op_eq (pv 1) pe_int (nomark _)) (pw_and1 (pt_cmpR op_gt (pv 3) pe_int (nomark _)))))
          (pss_one (ps_set (i := 4) sc_law_wheels.nd rfl (.inl rfl) pe_int))
          pss_nil)
        (pss_cons (ps_if (pt_cmpR op_eq (pv 1) pe_int (nomark _))
          (pss_one (ps_set (i := 4) sc_law_wheels.nd rfl (.inl rfl) (pe_op op_add pe_int (pe_op op_mod (pe_op op_fdiv (pe_ix (ixL K) (pv 0) (pv 3) (fun _ _ => rfl)) pe_int) (pe_op op_pow pe_int pe_int)))))
          pss_nil)
        (pss_one (ps_expr (pe_bm PySem.F.plainAttrs_list PySem.F.slot_list_append PySem.F.type_list_append mt_append (pv 2) (pa_cons (pv 4) pa_nil)))))))))
      (pss_one (ps_ret (pv 2))))))), ?_⟩
    -- _law_script = _law_script[:63]
    refine ⟨_, rfl, _, rfl, a, _, rfl, hS, fun c nc => ?_⟩
    have e63 : cutV (ns.map V.int) none (some 63) = ns.map V.int := cut_all _ (k := 63) (by rw [List.length_map]; exact hlen)
    rw [e63]
    have sc : Same H (upd H c (.lst (ns.map V.int))) := same_upd nc
    -- kind
    refine ⟨_, rfl, c, ns, 0, rfl, SqL.of upd_same, fun cl => ?_⟩
    refine ⟨_, _, _, rfl, (by decide), fun kd H1 k0 k1 s1 => ?_⟩
    have hC : SqL K H1 c (ns.map V.int) := s1.seq (SqL.of upd_same)
    -- found = []
    refine ⟨Nat.zero_le _, fun o no => ?_⟩
    have sH : Same H H1 := sc.trans s1
    -- the loop
    refine ⟨_, rfl, c, _, rfl, .inl ((same_upd no).seq hC), _, rfl, (by omega), (by rw [List.length_map]; omega), ?_⟩
    refine for_range (lo := 0) (fun i σ H3 => ∃ (ws : List Int) (y3 y4 : Option V), σ = [some (.ref c), some (.int kd), some (.ref o), y3, y4] ∧ ws.length = i ∧ sizes ws ∧ Same H1 H3 ∧ H3 o = some (.lst (ws.map V.int)))
      ⟨[], none, none, rfl, rfl, (fun _ h => by cases h), same_upd no, upd_same⟩ ?_ ?_
    · rintro i σ H3 hi ⟨ws, y3, y4, rfl, ew, hw, s3, eo⟩
      rw [List.length_map, Int.toNat_natCast] at hi
      have hC3 : SqL K H3 c (ns.map V.int) := s3.seq hC
      have g : (ns.map V.int)[i]? = some (.int ns[i]) := at_map_int (List.getElem?_eq_getElem hi)
      -- size = 1 + draw(..)
      refine ⟨_, rfl, _, rfl, c, _, _, _, rfl, rfl, hC3, at_of (j := i) (by omega) g, _, rfl, _, _, rfl, rfl, (by show (0 : Int) < 5; decide), _, _, rfl, rfl, (by show 6 ≤ sizeLine; decide), fun t nt => ?_⟩
      obtain ⟨j, ej⟩ : ∃ j : Nat, kd = (j : Int) := ⟨kd.toNat, by omega⟩
      have hj : j < kinds.length := by show j < 6; omega
      have hp := kinds_in _ (List.getElem_mem hj)
      have hk : (kinds.map V.int)[j]? = some (V.int kinds[j]) := at_map_int (List.getElem?_eq_getElem hj)
      refine ⟨_, rfl, t, kinds.map V.int, _, _, rfl, rfl, SqT.of upd_same, at_of ej hk, _, _, _, rfl, hp.1, fun z H4 z0 z1 s4 => ?_⟩
      have st : Same H3 H4 := (same_upd nt).trans s4
      have eo4 : H4 o = some (.lst (ws.map V.int)) := st _ _ eo
      have hC4 : SqL K H4 c (ns.map V.int) := st.seq hC3
      have bg := big_ge
      refine ⟨_, _, rfl, rfl, ?_⟩
      have fin : ∀ sz : Int, 1 ≤ sz → sz ≤ big → ∃ (ws' : List Int) (y3 y4 : Option V), [some (.ref c), some (.int kd), some (.ref o), some (.int (0 + (i : Int))), some (.int sz)] = [some (.ref c), some (.int kd), some (.ref o), y3, y4] ∧ ws'.length = i + 1 ∧ sizes ws' ∧ Same H1 (upd H4 o (.lst (ws.map V.int ++ [.int sz]))) ∧ (upd H4 o (.lst (ws.map V.int ++ [.int sz]))) o = some (.lst (ws'.map V.int)) := by
        intro sz h1 h2
        refine ⟨ws ++ [sz], _, _, rfl, by rw [List.length_append, ew]; rfl, sizes_snoc hw h1 h2, fun b u e => ?_, by rw [upd_same, List.map_append]; rfl⟩
        rw [upd_ne (ne_of_none e no)]
        exact (s3.trans st) _ _ e
      have hz : ∀ sz : Int, (ws.map V.int).length < sizeLine := fun _ => by rw [List.length_map]; exact lt_line (by omega)
      -- kind == 2
      refine ⟨_, rfl, rfl, _, rfl, ite2 (fun c2 => ?_) (fun _ => ?_)⟩
      all_goals first
        | (refine ⟨_, rfl, _, _, rfl, rfl, ⟨by decide, by decide⟩, _, _, rfl, rfl, .inr ⟨by decide, by decide⟩, _, _, rfl, rfl, ?_⟩
           have b1 : 1 ≤ (1 + z) / 2 * 2 + 1 := by omega
           have b2 : (1 + z) / 2 * 2 + 1 ≤ big := by omega)
        | (have b1 : 1 ≤ 1 + z := by omega
           have b2 : 1 + z ≤ big := by omega)
      -- kind == 4 and k > 2
      all_goals refine ⟨_, rfl, rfl, _, rfl, ite2 (fun c4 => ?_) (fun _ => iteF ?_)⟩
      all_goals try (refine ⟨_, rfl, _, _, rfl, rfl, _, rfl, ite2 (fun _ => ?_) (fun _ => ?_)⟩)
      -- kind == 5
      all_goals refine ⟨_, rfl, rfl, _, rfl, ite2 (fun c5 => ?_) (fun _ => ?_)⟩
      all_goals first
        | exact ⟨_, rfl, .inl ⟨rfl, _, SqL.of eo4⟩, _, rfl, o, _, _, rfl, rfl, eo4, hz 0, fin _ b1 b2⟩
        | exact ⟨_, rfl, .inl ⟨rfl, _, SqL.of eo4⟩, _, rfl, o, _, _, rfl, rfl, eo4, hz 0, fin 1 (by decide) (by omega)⟩
        | (refine ⟨_, rfl, _, rfl, c, _, _, _, rfl, rfl, hC4, at_of (j := i) (by omega) g, _, _, rfl, rfl, ⟨by decide, by decide⟩, _, _, rfl, rfl, ⟨by decide, by decide, by decide⟩, _, _, rfl, rfl, (by show 0 < big; omega), _, _, rfl, rfl, ?_⟩
           have hb0 : 0 < big := by omega
           have m0 := Int.emod_nonneg (ns[i] / 7) (show big ≠ 0 by omega)
           have m1 := Int.emod_lt_of_pos (ns[i] / 7) hb0
           exact ⟨_, rfl, .inl ⟨rfl, _, SqL.of eo4⟩, _, rfl, o, _, _, rfl, rfl, eo4, hz 0, fin (1 + ns[i] / 7 % big) (by omega) (by omega)⟩)
    · rintro σ H3 ⟨ws, y3, y4, rfl, ew, hw, s3, eo⟩
      rw [List.length_map, Int.toNat_natCast] at ew
      exact ⟨_, rfl, q ws o H3 hw ew (sH.trans s3) (sH.free no) eo⟩
end
end Ww
namespace Ww
open PySem PySem.Spec PyProof.Rows L2
section
variable {P : Program} {w : World} {K : PySem.W.Frag} {mg : Str → Option Value} {base : Heap}
/-! ### _law_setting: some setting -/
def sp_setting (K : PySem.W.Frag) : Sp := fun vs H Q _ => ∃ (a b : Addr) (ns ws : List Int) (by_ : Int), vs = [.ref a, .ref b, .int by_] ∧ SqL K H a (ns.map V.int) ∧ SqL K H b (ws.map V.int) ∧ ws.length ≤ ns.length ∧ ws.length ≤ 1000 ∧ ones ws ∧
  ∀ (st : List Int) (p : Addr) (H' : Hp), okS ws st → Same H H' → H p = none → H' p = some (.lst (st.map V.int)) → Q (.ref p) H'
theorem okS_snoc {ws st : List Int} {i : Nat} {s v : Int} (h : okS (ws.take i) st) (e : ws[i]? = some s) (h0 : 0 ≤ v) (h1 : v < s) : okS (ws.take (i + 1)) (st ++ [v]) := by
  rw [take_more e]
  exact okS_append h ⟨h0, h1, trivial⟩
theorem ok_setting (D : Df K mg "_law_setting" s_law_setting ["_law_script", "_law_wheels_here", "_law_by"]) (B : Bi mg) (G_law_cell_at : Ok P w K mg base "_law_cell_at" ["_law_script", "_law_k"] 1 (sp_cell_at K))
    (G_law_draw : Ok P w K mg base "_law_draw" ["_law_cell", "_law_k", "_law_many"] 1 sp_draw) : Ok P w K mg base "_law_setting" ["_law_script", "_law_wheels_here", "_law_by"] 2 (sp_setting K) := by
  refine D.ok sc_law_setting (fun vs H Q E h => ?_) (fun f cdv A outer s H vs Q E hr h => ?_)
  · obtain ⟨a, b, ns, ws, by_, rfl, _⟩ := h
    rfl
  · obtain ⟨a, b, ns, ws, by_, rfl, hS, hW, hle, hlen, ho, q⟩ := h
    refine ⟨_, (pss_cons (ps_set (i := 3) sc_law_setting.nd rfl (.inl rfl) (pe_ok G_law_draw hr (by decide) (pa_cons (pe_ok G_law_cell_at hr (by decide) (pa_cons (pv 0) (pa_cons pe_int pa_nil))) (pa_cons (pv 2) (pa_cons pe_int pa_nil)))))
      (pss_cons (ps_set (i := 4) sc_law_setting.nd rfl (.inl rfl) (pe_lst pa_nil))
      (pss_cons (ps_for PassesOwn.never rfl (pi_enum (by rfl) B.enumerate (pa_cons (pv 1) pa_nil)) (pg_tup rfl (pgs_cons (pg_name (i := 5) sc_law_setting.nd rfl (.inl rfl)) (pgs_cons (pg_name (i := 6) sc_law_setting.nd rfl (.inl rfl)) pgs_nil)))
        (pss_cons (ps_set (i := 7) sc_law_setting.nd rfl (.inl rfl) (pe_op op_mod (pe_op op_add (pe_op op_fdiv (pe_ix (ixL K) (pv 0) (pv 5) (fun _ _ => rfl)) pe_int) (pe_ok G_law_draw hr (by decide) (pa_cons (pe_ix (ixL K) (pv 0) (pv 5) (fun _ _ => rfl)) (pa_cons (pe_op op_add (pe_op op_mod (pv 5) pe_int) (pv 2)) (pa_cons pe_int pa_nil))))) (pv 6)))
        (pss_cons (ps_if (PW.pt (pw_and (pt_cmpR op_eq (pv 3) pe_int (nomark _)) (pw_and1 (pt_cmpR op_gt (pe_op op_mod (pv 7) pe_int) pe_int (nomark _)))))
          (pss_one (ps_set (i := 7) sc_law_setting.nd rfl (.inl rfl) (pe_op op_sub (pv 6) pe_int)))
          pss_nil)
        (pss_cons (ps_if (PW.pt (pw_and (pt_cmpR op_eq (pv 3) pe_int (nomark _)) (pw_and1 (pt_cmpR op_gt (pe_op op_mod (pv 7) pe_int) pe_int (nomark _)))))
          (pss_one (ps_set (i := 7) sc_law_setting.nd rfl (.inl rfl) pe_int))
          pss_nil)
        (pss_one (ps_expr (pe_bm PySem.F.plainAttrs_list PySem.F.slot_list_append PySem.F.type_list_append mt_append (pv 4) (pa_cons (pv 7) pa_nil))))))))
      (pss_one (ps_ret (pv 4)))))), ?_⟩
    refine ⟨_, rfl, a, ns, 1, rfl, hS, fun cl => ?_⟩
    refine ⟨_, rfl, _, _, _, rfl, (by decide), fun kd H1 k0 k1 s1 => ?_⟩
    refine ⟨Nat.zero_le _, fun o no => ?_⟩
    have s2 : Same H (upd H1 o (.lst [])) := s1.trans (same_upd no)
    refine ⟨_, rfl, b, _, rfl, s2.seq hW, ?_⟩
    refine for_enumL (K := K) (a := b) (xs := ws.map V.int) (fun i σ H3 => ∃ (st : List Int) (y5 y6 y7 : Option V), σ = [some (.ref a), some (.ref b), some (.int by_), some (.int kd), some (.ref o), y5, y6, y7] ∧ okS (ws.take i) st ∧ Same H1 H3 ∧ H3 o = some (.lst (st.map V.int)))
      ⟨[], none, none, none, rfl, trivial, same_upd no, upd_same⟩ (fun i σ H3 ⟨_, _, _, _, _, _, s3, _⟩ => (s1.trans s3).seq hW) ?_ ?_
    · rintro i x T σ H3 hx ⟨st, y5, y6, y7, rfl, hok, s3, eo⟩ nT
      obtain ⟨sz, hsz, rfl⟩ := map_int_at hx
      have hone : 1 ≤ sz := ho _ (List.mem_of_getElem? hsz)
      have hiw : i < ws.length := (List.getElem?_eq_some_iff.mp hsz).1
      have hi : i < ns.length := by omega
      have sT : Same H3 (upd H3 T (.tup [.int (i : Nat), .int sz])) := same_upd nT
      have sHT : Same H (upd H3 T (.tup [.int (i : Nat), .int sz])) := (s1.trans s3).trans sT
      have hS3 := sHT.seq hS
      have g : (ns.map V.int)[i]? = some (.int ns[i]) := at_map_int (List.getElem?_eq_getElem hi)
      refine ⟨T, [.int (i : Nat), .int sz], rfl, SqT.of upd_same, rfl, .int (i : Nat), [.int sz], rfl, .int sz, [], rfl, rfl, ?_⟩
      refine ⟨_, rfl, _, rfl, a, _, _, _, rfl, rfl, hS3, at_of (j := i) rfl g, _, _, rfl, rfl, ⟨by decide, by decide⟩, ?_⟩
      refine ⟨_, rfl, _, rfl, a, _, _, _, rfl, rfl, hS3, at_of (j := i) rfl g, _, rfl, _, _, rfl, rfl, (by show (0 : Int) < 4; decide), _, rfl, _, _, rfl, rfl, ?_⟩
      refine ⟨_, _, _, rfl, (by decide), fun z H4 z0 z1 s4 => ?_⟩
      refine ⟨_, _, rfl, rfl, _, rfl, _, _, rfl, rfl, (by show 0 < sz; omega), ?_⟩
      have eo4 : H4 o = some (.lst (st.map V.int)) := s4 _ _ (sT _ _ eo)
      have s14 : Same H1 H4 := (s3.trans sT).trans s4
      have hlst : st.length = i := by
        have := okS_len hok
        rw [List.length_take] at this
        omega
      have hz : (st.map V.int).length < sizeLine := by rw [List.length_map]; exact lt_line (by omega)
      have b0 : 0 ≤ (ns[i] / 3 + z) % sz := Int.emod_nonneg _ (by omega)
      have b1 : (ns[i] / 3 + z) % sz < sz := Int.emod_lt_of_pos _ (by omega)
      have fin : ∀ v : Int, 0 ≤ v → v < sz → ∃ (st' : List Int) (y5 y6 y7 : Option V), [some (.ref a), some (.ref b), some (.int by_), some (.int kd), some (.ref o), some (.int (i : Nat)), some (.int sz), some (.int v)] = [some (.ref a), some (.ref b), some (.int by_), some (.int kd), some (.ref o), y5, y6, y7] ∧ okS (ws.take (i + 1)) st' ∧ Same H1 (upd H4 o (.lst (st.map V.int ++ [.int v]))) ∧ (upd H4 o (.lst (st.map V.int ++ [.int v]))) o = some (.lst (st'.map V.int)) := by
        intro v h0 h1
        refine ⟨st ++ [v], _, _, _, rfl, okS_snoc hok hsz h0 h1, fun c u e => ?_, by rw [upd_same, List.map_append]; rfl⟩
        rw [upd_ne (ne_of_none e no)]
        exact s14 _ _ e
      refine ⟨_, rfl, rfl, _, rfl, ite2 (fun c1 => ?_) (fun _ => iteF ?_)⟩
      all_goals try (refine ⟨_, rfl, _, _, rfl, rfl, (by show (0 : Int) < 3; decide), _, _, rfl, rfl, _, rfl, ite2 (fun _ => ⟨_, rfl, _, _, rfl, rfl, ?_⟩) (fun _ => ?_)⟩)
      all_goals refine ⟨_, rfl, rfl, _, rfl, ite2 (fun c2 => ?_) (fun _ => iteF ?_)⟩
      all_goals try (refine ⟨_, rfl, _, _, rfl, rfl, (by show (0 : Int) < 3; decide), _, _, rfl, rfl, _, rfl, ite2 (fun _ => ?_) (fun _ => ?_)⟩)
      all_goals first
        | exact ⟨_, rfl, .inl ⟨rfl, _, SqL.of eo4⟩, _, rfl, o, _, _, rfl, rfl, eo4, hz, fin _ b0 b1⟩
        | exact ⟨_, rfl, .inl ⟨rfl, _, SqL.of eo4⟩, _, rfl, o, _, _, rfl, rfl, eo4, hz, fin (sz - 1) (by omega) (by omega)⟩
        | exact ⟨_, rfl, .inl ⟨rfl, _, SqL.of eo4⟩, _, rfl, o, _, _, rfl, rfl, eo4, hz, fin 0 (by omega) (by omega)⟩
    · rintro σ H3 ⟨st, y5, y6, y7, rfl, hok, s3, eo⟩
      rw [List.length_map, List.take_length] at hok
      exact ⟨_, rfl, q st o H3 hok (s1.trans s3) (s1.free no) eo⟩
/-! ### _law_count: the product -/
def sp_count (K : PySem.W.Frag) : Sp := fun vs H Q _ => ∃ (a : Addr) (ws : List Int), vs = [.ref a] ∧ SqL K H a (ws.map V.int) ∧ sizes ws ∧ ws.length ≤ 1000 ∧ Q (.int (prd ws)) H
theorem ok_count (D : Df K mg "_law_count" s_law_count ["_law_wheels_here"]) (B : Bi mg) : Ok P w K mg base "_law_count" ["_law_wheels_here"] 1 (sp_count K) := by
  refine D.ok sc_law_count (fun vs H Q E h => ?_) (fun f cdv A outer s H vs Q E hr h => ?_)
  · obtain ⟨a, ws, rfl, _⟩ := h
    rfl
  · obtain ⟨a, ws, rfl, hW, hs, hlen, q⟩ := h
    refine ⟨_, (pss_cons (ps_set (i := 1) sc_law_count.nd rfl (.inl rfl) pe_int)
      (pss_cons (ps_for PassesOwn.never rfl (pi_list (pv 0)) (pg_name (i := 2) sc_law_count.nd rfl (.inl rfl))
        (pss_one (ps_set (i := 1) sc_law_count.nd rfl (.inl rfl) (pe_op op_mulX (pv 1) (pv 2)))))
      (pss_one (ps_ret (pv 1))))), ?_⟩
    refine ⟨_, rfl, a, rfl, ⟨_, hW⟩, for_list (K := K) (a := a) (xs := ws.map V.int) (fun i σ H3 => ∃ y2 : Option V, σ = [some (.ref a), some (.int (prd (ws.take i).reverse)), y2] ∧ H3 = H)
      ⟨none, rfl, rfl⟩ (fun i σ H3 _ ⟨_, _, e⟩ => by rw [e]; exact hW) ?_ ?_⟩
    · rintro i x σ H3 hx ⟨y2, rfl, rfl⟩
      obtain ⟨sz, hsz, rfl⟩ := map_int_at hx
      have hi : i < ws.length := (List.getElem?_eq_some_iff.mp hsz).1
      have b1 := prd_bits (l := (ws.take i).reverse) (hs.take i).reverse
      have b2 := size_bits (hs.at hsz).1 (hs.at hsz).2
      refine ⟨_, rfl, _, rfl, _, _, rfl, rfl, mulx_ok b1 b2 ?_, some (.int sz), ?_, rfl⟩
      · rw [List.length_reverse, List.length_take]
        omega
      · rw [prd_snoc hsz]
        rfl
    · rintro σ H3 ⟨y2, rfl, rfl⟩
      refine ⟨_, rfl, ?_⟩
      rw [List.length_map, List.take_length, prd_reverse]
      exact q
/-! ### _law_is_setting -/
def chk (ws fs : List Int) (i : Nat) : List Bool := (List.range i).map fun k => decide (0 ≤ fs.getD k 0) && decide (fs.getD k 0 < ws.getD k 0)
def isB (ws fs : List Int) : Bool := decide (fs.length = ws.length) && (chk ws fs ws.length).all id
theorem isB_of {ws fs : List Int} (h : okS ws fs) : isB ws fs = true := by
  have e := okS_len h
  unfold isB
  rw [decide_eq_true e, Bool.true_and, List.all_eq_true]
  intro b hb
  unfold chk at hb
  rw [List.mem_map] at hb
  obtain ⟨k, hk, rfl⟩ := hb
  have hk2 := List.mem_range.mp hk
  have g1 : ws[k]? = some ws[k] := List.getElem?_eq_getElem hk2
  have g2 : fs[k]? = some (fs[k]'(by omega)) := List.getElem?_eq_getElem (by omega)
  have z := okS_at h g1 g2
  rw [List.getD_eq_getElem?_getD, List.getD_eq_getElem?_getD, g1, g2]
  show (decide (0 ≤ fs[k]'(by omega)) && decide (fs[k]'(by omega) < ws[k])) = true
  rw [decide_eq_true z.1, decide_eq_true z.2]
  rfl
theorem of_isB {ws fs : List Int} (h : isB ws fs = true) : okS ws fs := by
  unfold isB at h
  rw [Bool.and_eq_true] at h
  have e := of_decide_eq_true h.1
  refine okS_of e fun i s p e1 e2 => ?_
  have hi : i < ws.length := (List.getElem?_eq_some_iff.mp e1).1
  have h2 := List.all_eq_true.mp h.2 _ (List.mem_map.mpr ⟨i, List.mem_range.mpr hi, rfl⟩)
  rw [List.getD_eq_getElem?_getD, List.getD_eq_getElem?_getD, e1, e2] at h2
  have h3 : (decide (0 ≤ p) && decide (p < s)) = true := h2
  rw [Bool.and_eq_true] at h3
  exact ⟨of_decide_eq_true h3.1, of_decide_eq_true h3.2⟩
def sp_is_setting (K : PySem.W.Frag) : Sp := fun vs H Q _ => ∃ (a b : Addr) (ws fs : List Int), vs = [.ref a, .ref b] ∧ SqL K H a (ws.map V.int) ∧ SqL K H b (fs.map V.int) ∧ ws.length ≤ 20000 ∧ fs.length ≤ 20000 ∧
  ∀ H' : Hp, Same H H' → Q (.bl (isB ws fs)) H'
theorem any_rep (n : Nat) : (List.replicate n false).any id = false := by
  induction n with
  | zero => rfl
  | succ n ih => rw [List.replicate_succ, List.any_cons, ih]; rfl
theorem ok_is_setting (D : Df K mg "_law_is_setting" s_law_is_setting ["_law_wheels_here", "_law_found"]) (B : Bi mg) : Ok P w K mg base "_law_is_setting" ["_law_wheels_here", "_law_found"] 1 (sp_is_setting K) := by
  refine D.ok sc_law_is_setting (fun vs H Q E h => ?_) (fun f cdv A outer s H vs Q E hr h => ?_)
  · obtain ⟨a, b, ws, fs, rfl, _⟩ := h
    rfl
  · obtain ⟨a, b, ws, fs, rfl, hW, hF, lw, lf, q⟩ := h
    refine ⟨_, (pss_cons (ps_if (PW.pt (pw_or (pt_not (pt_val (pe_callB (isiK K) (by rfl) B.isinstance (by decide +kernel) (pa_cons (pv 1) (pa_cons (pe_bltn (v := .ty "list") (by rfl) B.list boot_list rfl) pa_nil))))) (pw_or1 (pt_cmpR op_ne (pe_callB (lenK K) (by rfl) B.len PySem.boot_len (pa_cons (pv 1) pa_nil)) (pe_callB (lenK K) (by rfl) B.len PySem.boot_len (pa_cons (pv 0) pa_nil)) (nomark _)))))
        (pss_one (ps_ret pe_bl))
        pss_nil)
      (pss_cons (ps_if (pt_val (pe_callB (anyK K rfl) (by rfl) B.any (by decide +kernel) (pa_cons (pe_lc (own := [("_law_one", 2)]) (g := gName 2) (tt := tYes) rfl sc_law_is_setting.nd (pi_list (pv 1)) (blkOk_by (own := [("_law_one", 2)]) (N := ["_law_wheels_here", "_law_found", "_law_one", "_law_k"]) (sc := defScope s_law_is_setting) (by decide +kernel)) (fun _ _ _ _ _ => pg_name (i := 2) sc_law_is_setting.nd rfl (.inl rfl)) (fun _ _ _ _ _ => pts_nil) (fun _ _ _ _ _ => (pe_or (pe_callB (isiK K) (by rfl) B.isinstance (by decide +kernel) (pa_cons (pv 2) (pa_cons (pe_bltn (v := .ty "bool") (by rfl) B.bool boot_bool rfl) pa_nil))) (pe_one (pe_not (pe_callB (isiK K) (by rfl) B.isinstance (by decide +kernel) (pa_cons (pv 2) (pa_cons (pe_bltn (v := .ty "int") (by rfl) B.int boot_int rfl) pa_nil)))))))) pa_nil)))
        (pss_one (ps_ret pe_bl))
        pss_nil)
      (pss_one (ps_ret (pe_callB (allK K rfl) (by rfl) B.all (by decide +kernel) (pa_cons (pe_lc (own := [("_law_k", 3)]) (g := gName 3) (tt := tYes) rfl sc_law_is_setting.nd (pi_range1 (by rfl) B.range (pa_cons (pe_callB (lenK K) (by rfl) B.len PySem.boot_len (pa_cons (pv 0) pa_nil)) pa_nil)) (blkOk_by (own := [("_law_k", 3)]) (N := ["_law_wheels_here", "_law_found", "_law_one", "_law_k"]) (sc := defScope s_law_is_setting) (by decide +kernel)) (fun _ _ _ _ _ => pg_name (i := 3) sc_law_is_setting.nd rfl (.inl rfl)) (fun _ _ _ _ _ => pts_nil) (fun _ _ _ _ _ => (pe_chain op_le op_lt pe_int (pe_ix (ixL K) (pv 1) (pv 3) (fun _ _ => rfl)) (pe_ix (ixL K) (pv 0) (pv 3) (fun _ _ => rfl))))) pa_nil)))))), ?_⟩
    refine ⟨_, rfl, _, _, _, _, true, rfl, .ty "list", tyx_list hF, kit_ty (by decide +kernel), _, rfl, iteF ?_⟩
    refine ⟨_, rfl, b, _, rfl, .inl hF, _, rfl, a, _, rfl, .inl hW, rfl, _, rfl, ?_⟩
    rw [List.length_map, List.length_map, dec_int1]
    by_cases el : fs.length = ws.length
    · have el2 : (fs.length : Int) = (ws.length : Int) := by omega
      rw [decide_eq_true el2]
      refine iteF ?_
      -- any([isinstance(one, bool) or not isinstance(one, int) for one in found])
      refine ⟨_, rfl, b, rfl, ⟨_, hF⟩, fun D nD => ?_⟩
      refine lc_list (K := K) (a := b) (xs := fs.map V.int) (fun i H3 => Same H H3 ∧ H3 D = some (.lst ((List.replicate i false).map V.bl))) ⟨same_upd nD, upd_same⟩ (fun i H3 _ h => h.1.seq hF) ?_ ?_
      · rintro i x H3 hx ⟨s3, eD⟩
        obtain ⟨z, hz, rfl⟩ := map_int_at hx
        have hi : i < fs.length := (List.getElem?_eq_some_iff.mp hz).1
        refine ⟨rfl, _, rfl, _, _, _, _, false, rfl, .ty "bool", .base (.int _), kit_ty (by decide +kernel), _, rfl, iteF ?_⟩
        refine ⟨_, rfl, _, _, _, _, true, rfl, .ty "int", .base (.int _), kit_ty (by decide +kernel), _, rfl, ?_⟩
        refine ⟨_, eD, ?_, ?_, ?_⟩
        · rw [List.length_map, List.length_replicate]; exact lt_line (by omega)
        · intro c u e
          rw [upd_ne (ne_of_none e nD)]
          exact s3 _ _ e
        · rw [upd_same, List.replicate_succ', List.map_append]
          rfl
      · rintro H3 ⟨s3, eD⟩
        refine ⟨D, _, rfl, SqL.of eD, _, rfl, ?_⟩
        rw [any_rep]
        refine iteF ?_
        -- all([0 <= found[k] < wheels[k] for k in range(len(wheels))])
        refine ⟨_, rfl, a, _, rfl, .inl (s3.seq hW), _, rfl, (by omega), (by rw [List.length_map]; omega), fun D2 nD2 => ?_⟩
        refine lc_range (lo := 0) (fun i H4 => Same H H4 ∧ H4 D2 = some (.lst ((chk ws fs i).map V.bl))) ⟨s3.trans (same_upd nD2), upd_same⟩ ?_ ?_
        · rintro i H4 hi ⟨s4, eD2⟩
          rw [List.length_map, Int.toNat_natCast] at hi
          have g1 : (ws.map V.int)[i]? = some (.int ws[i]) := at_map_int (List.getElem?_eq_getElem hi)
          have g2 : (fs.map V.int)[i]? = some (.int (fs[i]'(by omega))) := at_map_int (List.getElem?_eq_getElem (by omega))
          have ec : chk ws fs (i + 1) = chk ws fs i ++ [decide (0 ≤ fs[i]'(by omega)) && decide (fs[i]'(by omega) < ws[i])] := by
            unfold chk
            rw [List.range_succ, List.map_append, List.map_singleton, List.getD_eq_getElem?_getD, List.getD_eq_getElem?_getD, List.getElem?_eq_getElem hi, List.getElem?_eq_getElem (show i < fs.length by omega)]
            rfl
          have fin : ∀ c : Bool, c = (decide (0 ≤ fs[i]'(by omega)) && decide (fs[i]'(by omega) < ws[i])) → ∃ acc, H4 D2 = some (.lst acc) ∧ acc.length < sizeLine ∧ Same H (upd H4 D2 (.lst (acc ++ [.bl c]))) ∧ (upd H4 D2 (.lst (acc ++ [.bl c]))) D2 = some (.lst ((chk ws fs (i + 1)).map V.bl)) := by
            intro c hc
            refine ⟨_, eD2, ?_, ?_, ?_⟩
            · unfold chk
              rw [List.length_map, List.length_map, List.length_range]; exact lt_line (by omega)
            · intro c u e
              rw [upd_ne (s3.ne e nD2)]
              exact s4 _ _ e
            · rw [upd_same, ec, List.map_append, hc]
              rfl
          refine ⟨rfl, _, rfl, _, rfl, b, _, _, _, rfl, rfl, s4.seq hF, at_of (j := i) (by omega) g2, _, _, rfl, rfl, _, rfl, ite2 (fun c => ?_) (fun c => ?_)⟩
          · have c2 := of_decide_eq_true c
            refine ⟨_, rfl, _, rfl, a, _, _, _, rfl, rfl, s4.seq hW, at_of (j := i) (by omega) g1, _, _, rfl, rfl, fin _ ?_⟩
            rw [decide_eq_true c2]
            rfl
          · refine fin _ ?_
            have c2 : ¬ 0 ≤ fs[i]'(by omega) := fun z => c (decide_eq_true z)
            rw [decide_eq_false c2]
            rfl
        · rintro H4 ⟨s4, eD2⟩
          rw [List.length_map, Int.toNat_natCast] at eD2
          refine ⟨D2, _, rfl, SqL.of eD2, ?_⟩
          have e : isB ws fs = (chk ws fs ws.length).all id := by
            unfold isB
            rw [decide_eq_true el]
            rfl
          rw [← e]
          exact q H4 s4
    · have el2 : ¬ (fs.length : Int) = (ws.length : Int) := by omega
      rw [decide_eq_false el2]
      refine iteT ?_
      have e : isB ws fs = false := by
        unfold isB
        rw [decide_eq_false el]
        rfl
      have := q H (Same.refl H)
      rw [e] at this
      exact this
end
end Ww
/-! law 5: a text that is refused -/
namespace Ww
open PySem PySem.Spec PyProof.Rows L2 L2H
section
variable {P : Program} {w : World} {K : PySem.W.Frag} {mg : Str → Option Value} {base : Heap}
/-- a builtin's method within a suite (the written part told by name) -/
theorem pe_bmK (K : PySem.W.Frag) {X : Cx} {o e : Expr} {es : List Expr} {to : TE} {t : TA} {name : Str} {apos cpos : Pos} {T' id : String} {r : V → List V → Hp → VK → Prop} (pa : PlainAttrs T') (slot : Slot T' name id) (hty : typeOf (.builtin id) = pure (.type "method_descriptor")) (hm : MtR X id r) (ho : PE X o to) (ha : PA X (e :: es) t) (hK : X.K = K := by rfl)
    (hbase : attributeBase o name X.env (eval o X.env) = eval o X.env := by rfl)
    (hfew : ((backTo cpos (starEach (e :: es) X.env)).all (fun x => !x.1) && (backToKw cpos (keywordEach [] X.env)).all (fun x => x.1.isSome)
      && decide ((e :: es).length + ([] : List Keyword).length + (if ([] : List Keyword).isEmpty then 0 else 1) < 30)) = true := by rfl)
    (hline : (apos.endLine == cpos.line) = true := by rfl) (hs : starEach (e :: es) X.env = (false, eval e X.env) :: starEach es X.env := by rfl) (hplain : (backTo cpos (starEach es X.env)).any (·.1) = false := by rfl) :
    PE X (.Call (.Attribute o name apos) (e :: es) [] cpos) (tBM K T' r to t) := by
  subst hK
  exact pe_bm pa slot hty hm ho ha hbase hfew hline hs hplain
/-- the class at D is BadText's, of none of the other four, an own ValueError -/
structure OnlyT (K : PySem.W.Frag) (D CW CS CN CR CT CE : Addr) : Prop where
  c : ExcC K D
  k1 : PySem.W.kitOne K (.ref D) (.ref CW) = some false
  k2 : PySem.W.kitOne K (.ref D) (.ref CS) = some false
  k3 : PySem.W.kitOne K (.ref D) (.ref CN) = some false
  k4 : PySem.W.kitOne K (.ref D) (.ref CR) = some false
  k5 : PySem.W.kitOne K (.ref D) (.ref CT) = some true
  k6 : PySem.W.kitOne K (.ref D) (.type "ValueError") = some true
  e : PySem.W.exmOne K (.ref D) (.ref CE) = some true
theorem ref_only {C : Addr} : ∀ u, RelV (.ref C) u → u = .ref C := fun _ h => h
theorem ty_only {n : String} : ∀ u, RelV (.ty n) u → u = .type n := fun _ h => h
/-- read, of what is refused -/
def sp_bad_read (bad : Hp → V → Prop) (D : Addr) : Sp := fun vs H _ E => ∃ v : V, vs = [v] ∧ bad H v ∧ ∀ H' : Hp, Same H H' → E (.ref D) none H'
def sp_refused5 (bad : Hp → V → Prop) : Sp := fun vs H Q _ => ∃ v : V, vs = [v] ∧ bad H v ∧ ∀ H' : Hp, Same H H' → Q (.bl true) H'
theorem roomS5 {X : Cx} {k : Nat} {a : Addr} {pn : List (Addr × Obj)} (r : Room k X.A) : RoomH k (X.suite a pn).A := ⟨r.dp, r.un⟩
theorem ok_refused5 {bad : Hp → V → Prop} {CW CS CN CR CT CE D0 : Addr} (D : Df K mg "_law_refused" s_law_refused ["_law_text"]) (B : Bi mg) (vE : mg "ValueError" = none) (O : OnlyT K D0 CW CS CN CR CT CE)
    (T_WheelError : Err K mg "WheelError" CE) (T_BadWheels : Err K mg "BadWheels" CW) (T_BadSetting : Err K mg "BadSetting" CS) (T_BadNumber : Err K mg "BadNumber" CN) (T_NoRing : Err K mg "NoRing" CR) (T_BadText : Err K mg "BadText" CT)
    (X_read : OkX P w K mg base "read" ["text"] 12 (sp_bad_read bad D0)) : Ok P w K mg base "_law_refused" ["_law_text"] 13 (sp_refused5 bad) := by
  refine D.ok sc_law_refused (fun vs H Q E h => ?_) (fun f cdv A outer s H vs Q E hr h => ?_)
  · obtain ⟨v, rfl, _⟩ := h
    rfl
  · obtain ⟨v, rfl, hb, q⟩ := h
    refine ⟨_, (pss_cons (ps_tryA (i := 1) (c := .ref CE) rfl rfl sc_law_refused.nd rfl rfl ⟨by rfl, by decide, .inl T_WheelError.g⟩
        (fun W_ pn_ xe_ tk_ ow_ => (pss_one (ps_expr (pe_okS X_read hr (by decide) tk_ (pa_cons (pv 0) pa_nil)))))
        (fun a_ oe_ cls_ d_ pn_ hz_ hf_ => by exact (pss_cons (ps_set (i := 2) sc_law_refused.nd rfl (.inl rfl) (pe_lst (pa_cons (pe_callB (isP (oe := oe_) K List.mem_cons_self hz_.zc hf_) (by rfl) B.isinstance (by decide +kernel) (pa_cons (pv 1) (pa_cons (pe_glob (by rfl) T_BadNumber.g (v := .ref CN) rfl) pa_nil))) (pa_cons (pe_callB (isP (oe := oe_) K List.mem_cons_self hz_.zc hf_) (by rfl) B.isinstance (by decide +kernel) (pa_cons (pv 1) (pa_cons (pe_glob (by rfl) T_BadSetting.g (v := .ref CS) rfl) pa_nil))) (pa_cons (pe_callB (isP (oe := oe_) K List.mem_cons_self hz_.zc hf_) (by rfl) B.isinstance (by decide +kernel) (pa_cons (pv 1) (pa_cons (pe_glob (by rfl) T_BadWheels.g (v := .ref CW) rfl) pa_nil))) pa_nil)))))
        (pss_cons (ps_expr (pe_bmK K PySem.F.plainAttrs_list PySem.F.slot_list_append PySem.F.type_list_append mt_append (pv 2) (pa_cons (pe_callB (isP (oe := oe_) K List.mem_cons_self hz_.zc hf_) (by rfl) B.isinstance (by decide +kernel) (pa_cons (pv 1) (pa_cons (pe_glob (by rfl) T_NoRing.g (v := .ref CR) rfl) pa_nil))) pa_nil)))
        (pss_one (ps_ret (pe_and (pe_callB (isP (oe := oe_) K List.mem_cons_self hz_.zc hf_) (by rfl) B.isinstance (by decide +kernel) (pa_cons (pv 1) (pa_cons (pe_glob (by rfl) T_BadText.g (v := .ref CT) rfl) pa_nil))) (pe_and (pe_callB (isP (oe := oe_) K List.mem_cons_self hz_.zc hf_) (by rfl) B.isinstance (by decide +kernel) (pa_cons (pv 1) (pa_cons (pe_bltn (v := .ty "ValueError") (by rfl) vE (by decide +kernel) rfl) pa_nil))) (pe_one (pe_not (pe_callB (anyH K (hotC_suite hz_ hf_)) (by rfl) B.any (by decide +kernel) (pa_cons (pv 2) pa_nil))))))))))))
      (pss_one (ps_ret pe_bl))), ?_⟩
    refine ⟨_, rfl, v, rfl, hb, fun H2 s2 => ?_⟩
    refine ⟨true, O.e, fun _ a na => ?_, fun h => absurd h (by decide)⟩
    refine ⟨_, rfl, D0, _, _, false, rfl, rfl, O.c, rfl, ref_only, O.k3, _, rfl, D0, _, _, false, rfl, rfl, O.c, rfl, ref_only, O.k2, _, rfl, D0, _, _, false, rfl, rfl, O.c, rfl, ref_only, O.k1, (by show 3 ≤ sizeLine; decide), fun p1 n1 => ?_⟩
    have t1 : Same H2 (upd H2 p1 (.lst [.bl false, .bl false, .bl false])) := same_upd n1
    have e1 : upd H2 p1 (.lst [.bl false, .bl false, .bl false]) p1 = some (.lst [.bl false, .bl false, .bl false]) := upd_same
    refine ⟨_, rfl, .inl ⟨rfl, _, SqL.of e1⟩, _, rfl, D0, _, _, false, rfl, rfl, O.c, rfl, ref_only, O.k4, p1, _, _, rfl, rfl, e1, (by show 3 < sizeLine; decide), ?_⟩
    have t2 : Same H2 (upd (upd H2 p1 (.lst [.bl false, .bl false, .bl false])) p1 (.lst ([.bl false, .bl false, .bl false] ++ [.bl false]))) := fun d u e => by
      rw [upd_ne (ne_of_none e n1)]
      exact t1 _ _ e
    refine ⟨_, rfl, D0, _, _, true, rfl, rfl, O.c, rfl, ref_only, O.k5, _, rfl, ?_⟩
    refine ⟨_, rfl, D0, _, _, true, rfl, rfl, O.c, rfl, ty_only, O.k6, _, rfl, ?_⟩
    refine ⟨_, rfl, p1, [false, false, false, false], rfl, SqL.of upd_same, _, rfl, ?_⟩
    exact q _ (s2.trans t2)
end
end Ww
namespace Ww
open PySem PySem.Spec PyProof.Rows L2
section
variable {P : Program} {w : World} {K : PySem.W.Frag} {mg : Str → Option Value} {base : Heap}
/-! ### is_whole -/
def sp_is_whole : Sp := fun vs H Q _ => ∃ z : Int, vs = [.int z] ∧ Q (.bl true) H
theorem ok_is_whole (D : Df K mg "is_whole" s_is_whole ["thing"]) (B : Bi mg) : Ok P w K mg base "is_whole" ["thing"] 1 sp_is_whole := by
  refine D.ok sc_is_whole (fun vs H Q E h => ?_) (fun f cdv A outer s H vs Q E hr h => ?_)
  · obtain ⟨z, rfl, _⟩ := h
    rfl
  · obtain ⟨z, rfl, q⟩ := h
    refine ⟨_, (pss_one (ps_ret (pe_and (pe_callB (isiK K) (by rfl) B.isinstance (by decide +kernel) (pa_cons (pv 0) (pa_cons (pe_bltn (v := .ty "int") (by rfl) B.int boot_int rfl) pa_nil))) (pe_one (pe_not (pe_callB (isiK K) (by rfl) B.isinstance (by decide +kernel) (pa_cons (pv 0) (pa_cons (pe_bltn (v := .ty "bool") (by rfl) B.bool boot_bool rfl) pa_nil)))))))), ?_⟩
    refine ⟨_, rfl, _, _, _, _, true, rfl, .ty "int", .base (.int _), kit_ty (by decide +kernel), _, rfl, iteT ?_⟩
    exact ⟨_, rfl, _, _, _, _, false, rfl, .ty "bool", .base (.int _), kit_ty (by decide +kernel), _, rfl, q⟩
end
end Ww
namespace Ww
open PySem PySem.Spec PyProof.Rows L2
section
variable {P : Program} {w : World} {K : PySem.W.Frag} {mg : Str → Option Value} {base : Heap}
/-- whether a list of ints is a setting of a list of ints, whatever the ints -/
def sp_is_set (K : PySem.W.Frag) : Sp := fun vs H Q _ => ∃ (a b : Addr) (ws st : List Int), vs = [.ref a, .ref b] ∧ SqL K H a (ws.map V.int) ∧ SqL K H b (st.map V.int) ∧ ∀ H' : Hp, Same H H' → Q (.bl (isB ws st)) H'
theorem isB_not {ws st : List Int} (h : ¬ okS ws st) : isB ws st = false := by
  cases e : isB ws st with
  | false => rfl
  | true => exact absurd (of_isB e) h
theorem ok_is_set (D : Df K mg "is_setting" s_is_setting ["wheels", "setting"]) (B : Bi mg) (G_is_whole : Ok P w K mg base "is_whole" ["thing"] 1 sp_is_whole) : Ok P w K mg base "is_setting" ["wheels", "setting"] 2 (sp_is_set K) := by
  refine D.ok sc_is_setting (fun vs H Q E h => ?_) (fun f cdv A outer s H vs Q E hr h => ?_)
  · obtain ⟨a, b, ws, st, rfl, _⟩ := h
    rfl
  · obtain ⟨a, b, ws, st, rfl, hW, hS, q⟩ := h
    refine ⟨_, (pss_cons (ps_if (PW.pt (pw_or (pt_not (pt_val (pe_callB (isiK K) (by rfl) B.isinstance (by decide +kernel) (pa_cons (pv 1) (pa_cons (pe_bltn (v := .ty "list") (by rfl) B.list boot_list rfl) pa_nil))))) (pw_or1 (pt_cmpR op_ne (pe_callB (lenK K) (by rfl) B.len PySem.boot_len (pa_cons (pv 1) pa_nil)) (pe_callB (lenK K) (by rfl) B.len PySem.boot_len (pa_cons (pv 0) pa_nil)) (nomark _)))))
        (pss_one (ps_ret pe_bl))
        pss_nil)
      (pss_cons (ps_for PassesOwn.never rfl (pi_zip (by rfl) B.zip (pa_cons (pv 0) (pa_cons (pv 1) pa_nil))) (pg_tup rfl (pgs_cons (pg_name (i := 2) sc_is_setting.nd rfl (.inl rfl)) (pgs_cons (pg_name (i := 3) sc_is_setting.nd rfl (.inl rfl)) pgs_nil)))
        (pss_one (ps_if (PW.pt (pw_or (pt_not (pt_val (pe_ok G_is_whole hr (by decide) (pa_cons (pv 3) pa_nil)))) (pw_or1 (pt_not (pt_chain op_le op_lt pe_int (pv 3) (pv 2))))))
          (pss_one (ps_ret pe_bl))
          pss_nil)))
      (pss_one (ps_ret pe_bl)))), ?_⟩
    refine ⟨_, rfl, _, _, _, _, true, rfl, .ty "list", tyx_list hS, kit_ty (by decide +kernel), _, rfl, ?_⟩
    refine ⟨_, rfl, b, _, rfl, .inl hS, _, rfl, a, _, rfl, .inl hW, rfl, _, rfl, ?_⟩
    rw [List.length_map, List.length_map, dec_int1]
    by_cases el : st.length = ws.length
    rotate_left
    · rw [decide_eq_false (show ¬ (st.length : Int) = (ws.length : Int) by omega)]
      rw [isB_not fun h => el (okS_len h)] at q
      exact q H (Same.refl H)
    rw [decide_eq_true (show (st.length : Int) = (ws.length : Int) by omega)]
    refine ⟨_, rfl, _, rfl, a, b, _, _, rfl, hW, hS, RZ.for_zipL (K := K) (a := a) (b := b) (by rw [List.length_map, List.length_map, el]) (fun i σ H3 => (∃ y2 y3 : Option V, σ = [some (.ref a), some (.ref b), y2, y3] ∧ Same H H3) ∧ ∀ (j : Nat) (s p : Int), j < i → ws[j]? = some s → st[j]? = some p → 0 ≤ p ∧ p < s)
      ⟨⟨none, none, rfl, Same.refl H⟩, fun _ _ _ h => absurd h (Nat.not_lt_zero _)⟩ (fun i σ H3 ⟨⟨_, _, _, s3⟩, _⟩ => ⟨s3.seq hW, s3.seq hS⟩) ?_ ?_⟩
    · rintro i x y T σ H3 hx hy ⟨⟨y2, y3, rfl, s3⟩, hall⟩ nT
      obtain ⟨sz, hsz, rfl⟩ := map_int_at hx
      obtain ⟨p, hp, rfl⟩ := map_int_at hy
      have sT : Same H (upd H3 T (.tup [.int sz, .int p])) := s3.trans (same_upd nT)
      refine ⟨T, [.int sz, .int p], rfl, SqT.of upd_same, rfl, .int sz, [.int p], rfl, .int p, [], rfl, rfl, ?_⟩
      refine ⟨_, rfl, p, rfl, _, rfl, ?_⟩
      have out : ¬ (0 ≤ p ∧ p < sz) → Q (.bl false) (upd H3 T (.tup [.int sz, .int p])) := fun hn => by
        rw [isB_not fun h => hn (okS_at h hsz hp)] at q
        exact q _ sT
      refine ⟨_, rfl, _, _, rfl, rfl, _, rfl, ite2 (fun c0 => ?_) (fun c0 => ⟨_, rfl, out fun h => c0 (decide_eq_true h.1)⟩)⟩
      refine ⟨_, rfl, _, _, rfl, rfl, _, rfl, ?_⟩
      by_cases c1 : p < sz
      · rw [decide_eq_true c1]
        refine ⟨⟨_, _, rfl, sT⟩, fun j s q hj e1 e2 => ?_⟩
        by_cases hji : j = i
        · subst hji
          have e3 := Option.some.inj (hsz.symm.trans e1)
          have e4 := Option.some.inj (hp.symm.trans e2)
          subst e3 e4
          exact ⟨of_decide_eq_true c0, c1⟩
        · exact hall j s q (by omega) e1 e2
      · rw [decide_eq_false c1]
        exact out fun h => c1 h.2
    · rintro σ H3 ⟨⟨y2, y3, rfl, s3⟩, hall⟩
      rw [List.length_map] at hall
      have hok : okS ws st := okS_of el fun i s p e1 e2 => hall i s p (List.getElem?_eq_some_iff.mp e1).1 e1 e2
      rw [isB_of hok] at q
      exact q H3 s3
end
end Ww
namespace Ww
open PySem PySem.Spec PyProof.Rows L2
section
variable {P : Program} {w : World} {K : PySem.W.Frag} {mg : Str → Option Value} {base : Heap}
/-! ### the checks, of what passes them -/
def sp_check_wheels (K : PySem.W.Frag) : Sp := fun vs H Q _ => ∃ (a : Addr) (ws : List Int), vs = [.ref a] ∧ SqL K H a (ws.map V.int) ∧ ones ws ∧ Q .non H
theorem ok_check_wheels (D : Df K mg "check_wheels" s_check_wheels ["wheels"]) (B : Bi mg) (G_is_whole : Ok P w K mg base "is_whole" ["thing"] 1 sp_is_whole) : Ok P w K mg base "check_wheels" ["wheels"] 2 (sp_check_wheels K) := by
  refine D.ok sc_check_wheels (fun vs H Q E h => ?_) (fun f cdv A outer s H vs Q E hr h => ?_)
  · obtain ⟨a, ws, rfl, _⟩ := h
    rfl
  · obtain ⟨a, ws, rfl, hS, ho, q⟩ := h
    refine ⟨_, (pss_cons (ps_if (pt_not (pt_val (pe_callB (isiK K) (by rfl) B.isinstance (by decide +kernel) (pa_cons (pv 0) (pa_cons (pe_bltn (v := .ty "list") (by rfl) B.list boot_list rfl) pa_nil)))))
        (pss_one ps_never)
        pss_nil)
      (pss_one (ps_for PassesOwn.never rfl (pi_list (pv 0)) (pg_name (i := 1) sc_check_wheels.nd rfl (.inl rfl))
        (pss_one (ps_if (PW.pt (pw_or (pt_not (pt_val (pe_ok G_is_whole hr (by decide) (pa_cons (pv 1) pa_nil)))) (pw_or1 (pt_cmpR op_lt (pv 1) pe_int (nomark _)))))
          (pss_one ps_never)
          pss_nil))))), ?_⟩
    refine ⟨_, rfl, _, _, _, _, true, rfl, .ty "list", tyx_list hS, kit_ty (by decide +kernel), _, rfl, ?_⟩
    refine ⟨_, rfl, a, rfl, ⟨_, hS⟩, for_list (K := K) (a := a) (xs := ws.map V.int) (fun i σ H3 => ∃ y1 : Option V, σ = [some (.ref a), y1] ∧ H3 = H) ⟨none, rfl, rfl⟩ (fun i σ H3 _ ⟨_, _, e⟩ => by rw [e]; exact hS) ?_ ?_⟩
    · rintro i x σ H3 hx ⟨y1, rfl, rfl⟩
      obtain ⟨z, hz, rfl⟩ := map_int_at hx
      have h1 := ho z (List.mem_of_getElem? hz)
      refine ⟨_, rfl, z, rfl, _, rfl, ?_⟩
      refine ⟨_, rfl, _, _, rfl, rfl, _, rfl, ite2 (fun c => ?_) (fun _ => ⟨_, rfl, rfl⟩)⟩
      have := of_decide_eq_true c
      omega
    · rintro σ H3 ⟨y1, rfl, rfl⟩
      exact q
def sp_check_setting (K : PySem.W.Frag) : Sp := fun vs H Q _ => ∃ (a b : Addr) (ws st : List Int), vs = [.ref a, .ref b] ∧ SqL K H a (ws.map V.int) ∧ SqL K H b (st.map V.int) ∧ okS ws st ∧ ∀ H' : Hp, Same H H' → Q .non H'
theorem ok_check_setting (D : Df K mg "check_setting" s_check_setting ["wheels", "setting"]) (G_is_setting : Ok P w K mg base "is_setting" ["wheels", "setting"] 2 (sp_is_set K)) : Ok P w K mg base "check_setting" ["wheels", "setting"] 3 (sp_check_setting K) := by
  refine D.ok sc_check_setting (fun vs H Q E h => ?_) (fun f cdv A outer s H vs Q E hr h => ?_)
  · obtain ⟨a, b, ws, st, rfl, _⟩ := h
    rfl
  · obtain ⟨a, b, ws, st, rfl, hW, hS, hok, q⟩ := h
    refine ⟨_, (pss_one (ps_if (pt_not (pt_val (pe_ok G_is_setting hr (by decide) (pa_cons (pv 0) (pa_cons (pv 1) pa_nil)))))
        (pss_one ps_never)
        pss_nil)), ?_⟩
    refine ⟨_, rfl, _, rfl, a, b, ws, st, rfl, hW, hS, fun H1 s1 => ?_⟩
    rw [isB_of hok]
    exact ⟨_, rfl, q H1 s1⟩
end
end Ww
/-! texts.py: written (of up to 10,000 wheels) -/
namespace Ww
open PySem PySem.Spec PyProof.Rows L2
/-- f'..' of two parts or more, its reading by a name (so that it serves within a comprehension) -/
def tFS (ts : List TE) : TE := fun σ H Q => tJs ts Str.empty σ H fun out H1 => Q (.str out) H1
theorem pe_joinedT {X : Cx} {v1 v2 : Expr} {rest : List Expr} {ts : List TE} {pos : Pos} (h : PJ X (v1 :: v2 :: rest) ts) : PE X (.JoinedStr (v1 :: v2 :: rest) pos) (tFS ts) := pe_joined h
/-- a number in figures -/
def fig (n : Int) : Str := Str.ofString (toString n)
/-- a setting written -/
def txtOf (ws st : List Int) : Str := Str.empty ++ Txt.join " " (ws.map fig) ++ ":" ++ Txt.join "" (st.map fun p => Str.empty ++ " " ++ fig p)
theorem le_line5 {n : Nat} (h : n ≤ 2000000) : n ≤ sizeLine := Nat.le_trans h (by decide)
theorem fig_len {n : Int} (h0 : 0 ≤ n) (h : n < 10 ^ 60) : (fig n).length ≤ 60 := PyProof.Rows.toString_length_le h0 (by decide) h
theorem fig_bits {n : Int} (h0 : 0 ≤ n) (h : n < 10 ^ 60) : n.natAbs.log2 < 1920 := by
  have h2 : n.natAbs < 2 ^ 200 := by
    have e : (10 : Int) ^ 60 < 2 ^ 200 := by decide +kernel
    omega
  exact Nat.lt_of_lt_of_le (PySem.Flt.log2_lt_of (by decide) h2) (by decide)
theorem app_len (a b : Str) : (a ++ b).length = a.length + b.length := by
  show (a.cps ++ b.cps).size = _
  rw [Array.size_append]
  rfl
theorem sum_le {k : Nat} : ∀ {l : List Nat}, (∀ x ∈ l, x ≤ k) → l.sum ≤ l.length * k
  | [], _ => Nat.zero_le _
  | x :: r, h => by
    have h1 := h x List.mem_cons_self
    have h2 := sum_le (l := r) fun y hy => h y (List.mem_cons_of_mem _ hy)
    rw [List.sum_cons, List.length_cons, Nat.succ_mul]
    omega
theorem sizes_lens {ws : List Int} (h : ∀ x ∈ ws, 0 ≤ x ∧ x < 10 ^ 60) : (((ws.map fig).map (·.length)).sum) ≤ ws.length * 60 := by
  have := sum_le (k := 60) (l := (ws.map fig).map (·.length)) fun x hx => by
    obtain ⟨y, hy, rfl⟩ := List.mem_map.mp hx
    obtain ⟨z, hz, rfl⟩ := List.mem_map.mp hy
    exact fig_len (h z hz).1 (h z hz).2
  rw [List.length_map, List.length_map] at this
  exact this
theorem blank_len {p : Int} (h0 : 0 ≤ p) (h : p < 10 ^ 60) : (Str.empty ++ " " ++ fig p).length ≤ 61 := by
  rw [app_len, app_len]
  have := fig_len h0 h
  have e1 : Str.empty.length = 0 := rfl
  have e2 : (" " : Str).length = 1 := rfl
  omega
theorem nums_lens {st : List Int} (h : ∀ x ∈ st, 0 ≤ x ∧ x < 10 ^ 60) : (((st.map fun p => Str.empty ++ " " ++ fig p).map (·.length)).sum) ≤ st.length * 61 := by
  have := sum_le (k := 61) (l := (st.map fun p => Str.empty ++ " " ++ fig p).map (·.length)) fun x hx => by
    obtain ⟨y, hy, rfl⟩ := List.mem_map.mp hx
    obtain ⟨z, hz, rfl⟩ := List.mem_map.mp hy
    exact blank_len (h z hz).1 (h z hz).2
  rw [List.length_map, List.length_map] at this
  exact this
theorem okS_mem : ∀ {ws st : List Int}, okS ws st → ∀ p ∈ st, 0 ≤ p ∧ ∃ s ∈ ws, p < s
  | [], [], _, p, h => by cases h
  | [], _ :: _, h, _, _ => h.elim
  | _ :: _, [], h, _, _ => h.elim
  | s :: ws, q :: st, h, p, hp => by
    rcases List.mem_cons.mp hp with rfl | hp
    · exact ⟨h.1, s, List.mem_cons_self, h.2.1⟩
    · obtain ⟨h1, s2, h2, h3⟩ := okS_mem h.2.2 p hp
      exact ⟨h1, s2, List.mem_cons_of_mem _ h2, h3⟩
section
variable {P : Program} {w : World} {K : PySem.W.Frag} {mg : Str → Option Value} {base : Heap}
def sp_written (K : PySem.W.Frag) : Sp := fun vs H Q _ => ∃ (a b : Addr) (ws st : List Int), vs = [.ref a, .ref b] ∧ SqL K H a (ws.map V.int) ∧ SqL K H b (st.map V.int) ∧ ones ws ∧ (∀ x ∈ ws, x < 10 ^ 60) ∧ ws.length ≤ 10000 ∧ okS ws st ∧ ∀ H' : Hp, Same H H' → Q (.str (txtOf ws st)) H'
theorem ok_written (D : Df K mg "written" s_written ["wheels", "setting"]) (B : Bi mg) (G_check_wheels : Ok P w K mg base "check_wheels" ["wheels"] 2 (sp_check_wheels K)) (G_check_setting : Ok P w K mg base "check_setting" ["wheels", "setting"] 3 (sp_check_setting K)) :
    Ok P w K mg base "written" ["wheels", "setting"] 12 (sp_written K) := by
  refine D.ok sc_written (fun vs H Q E h => ?_) (fun f cdv A outer s H vs Q E hr h => ?_)
  · obtain ⟨a, b, ws, st, rfl, _⟩ := h
    rfl
  · obtain ⟨a, b, ws, st, rfl, hW, hS, ho, hbig, hl, hok, q⟩ := h
    have el := okS_len hok
    have hws : ∀ x ∈ ws, 0 ≤ x ∧ x < 10 ^ 60 := fun x hx => ⟨by have := ho x hx; omega, hbig x hx⟩
    have hst : ∀ x ∈ st, 0 ≤ x ∧ x < 10 ^ 60 := fun x hx => by
      obtain ⟨h0, z, hz, h1⟩ := okS_mem hok x hx
      have := hbig z hz
      exact ⟨h0, by omega⟩
    refine ⟨_, (pss_cons (ps_expr (pe_ok G_check_wheels hr (by decide) (pa_cons (pv 0) pa_nil)))
      (pss_cons (ps_for PassesOwn.never rfl (pi_list (pv 0)) (pg_name (i := 2) sc_written.nd rfl (.inl rfl))
        (pss_one (ps_if (pt_cmpR op_ge (pv 2) (pe_op op_pow pe_int pe_int) (nomark _))
          (pss_one ps_never)
          pss_nil)))
      (pss_cons (ps_expr (pe_ok G_check_setting hr (by decide) (pa_cons (pv 0) (pa_cons (pv 1) pa_nil))))
      (pss_cons (ps_set (i := 3) sc_written.nd rfl (.inl rfl) (pe_join pe_str (pe_lc (own := [("size", 2)]) (g := gName 2) (tt := tYes) rfl sc_written.nd (pi_list (pv 0)) (blkOk_by (own := [("size", 2)]) (N := ["wheels", "setting", "size", "sizes", "numbers", "place"]) (sc := defScope s_written) (by decide +kernel)) (fun _ _ _ _ _ => pg_name (i := 2) sc_written.nd rfl (.inl rfl)) (fun _ _ _ _ _ => pts_nil) (fun _ _ _ _ _ => (pe_callTy call_str_int (by rfl) B.str boot_str (pa_cons (pv 2) pa_nil))))))
      (pss_cons (ps_set (i := 4) sc_written.nd rfl (.inl rfl) (pe_join pe_str (pe_lc (own := [("place", 5)]) (g := gName 5) (tt := tYes) rfl sc_written.nd (pi_list (pv 1)) (blkOk_by (own := [("place", 5)]) (N := ["wheels", "setting", "size", "sizes", "numbers", "place"]) (sc := defScope s_written) (by decide +kernel)) (fun _ _ _ _ _ => pg_name (i := 5) sc_written.nd rfl (.inl rfl)) (fun _ _ _ _ _ => pts_nil) (fun _ _ _ _ _ => (pe_joinedT (.cons pe_str (.cons (pe_fmt (pv 5)) .nil)))))))
      (pss_one (ps_ret (pe_joinedT (.cons (pe_fmt (pv 3)) (.cons pe_str (.cons (pe_fmt (pv 4)) .nil))))))))))), ?_⟩
    refine ⟨_, rfl, a, ws, rfl, hW, ho, ?_⟩
    refine ⟨_, rfl, a, rfl, ⟨_, hW⟩, for_list (K := K) (a := a) (xs := ws.map V.int) (fun i σ H3 => ∃ y2 : Option V, σ = [some (.ref a), some (.ref b), y2, none, none, none] ∧ H3 = H) ⟨none, rfl, rfl⟩ (fun i σ H3 _ ⟨_, _, e⟩ => by rw [e]; exact hW) ?_ ?_⟩
    · rintro i x σ H3 hx ⟨y2, rfl, rfl⟩
      obtain ⟨z, hz, rfl⟩ := map_int_at hx
      have hlt := hbig z (List.mem_of_getElem? hz)
      refine ⟨_, rfl, _, _, rfl, rfl, ⟨by decide, by decide, by decide⟩, _, _, rfl, rfl, _, rfl, ite2 (fun c => ?_) (fun _ => ⟨_, rfl, rfl⟩)⟩
      have c' : (10 : Int) ^ 60 ≤ z := of_decide_eq_true c
      omega
    · rintro σ H3 ⟨y2, rfl, rfl⟩
      refine ⟨_, rfl, _, rfl, a, b, ws, st, rfl, hW, hS, hok, fun H1 s1 => ?_⟩
      refine ⟨⟨_, rfl⟩, _, rfl, a, rfl, ⟨_, s1.seq hW⟩, fun D nD => ?_⟩
      refine lc_list (K := K) (a := a) (xs := ws.map V.int) (fun i H4 => Same H1 H4 ∧ H4 D = some (.lst (((ws.take i).map fig).map V.str))) ⟨same_upd nD, upd_same⟩ (fun i H4 _ h => (s1.trans h.1).seq hW) ?_ ?_
      · rintro i x H4 hx ⟨s4, eD⟩
        obtain ⟨z, hz, rfl⟩ := map_int_at hx
        have hi : i < ws.length := (List.getElem?_eq_some_iff.mp hz).1
        have hzb := hws z (List.mem_of_getElem? hz)
        refine ⟨rfl, _, rfl, z, rfl, fig_bits hzb.1 hzb.2, _, eD, ?_, ?_, ?_⟩
        · rw [List.length_map, List.length_map, List.length_take]
          exact lt_line (by omega)
        · intro d u e
          rw [upd_ne (ne_of_none e nD)]
          exact s4 _ _ e
        · rw [upd_same, take_more hz, List.map_append, List.map_append]
          rfl
      rintro H4 ⟨s4, eD⟩
      rw [List.length_map, List.take_length] at eD
      have b1 : ((ws.map fig).map (·.length)).sum + (ws.map fig).length * (" " : Str).length ≤ 610000 := by
        have := sizes_lens hws
        have e2 : (" " : Str).length = 1 := rfl
        rw [List.length_map, e2]
        omega
      refine ⟨" ", D, ws.map fig, rfl, rfl, .inl (SqL.of eD), Nat.le_trans b1 (by decide), ?_⟩
      have s14 := s1.trans s4
      refine ⟨⟨_, rfl⟩, _, rfl, b, rfl, ⟨_, s14.seq hS⟩, fun D2 nD2 => ?_⟩
      refine lc_list (K := K) (a := b) (xs := st.map V.int) (fun i H5 => Same H4 H5 ∧ H5 D2 = some (.lst (((st.take i).map fun p => Str.empty ++ " " ++ fig p).map V.str))) ⟨same_upd nD2, upd_same⟩ (fun i H5 _ h => (s14.trans h.1).seq hS) ?_ ?_
      · rintro i x H5 hx ⟨s5, eD2⟩
        obtain ⟨z, hz, rfl⟩ := map_int_at hx
        have hi : i < st.length := (List.getElem?_eq_some_iff.mp hz).1
        have hzb := hst z (List.mem_of_getElem? hz)
        refine ⟨rfl, " ", rfl, (by decide), _, rfl, .inr ⟨z, rfl, fig_bits hzb.1 hzb.2, fig z, rfl, ?_, _, eD2, ?_, ?_, ?_⟩⟩
        · exact Nat.le_trans (blank_len hzb.1 hzb.2) (by decide)
        · rw [List.length_map, List.length_map, List.length_take]
          exact lt_line (by omega)
        · intro d u e
          rw [upd_ne (ne_of_none e nD2)]
          exact s5 _ _ e
        · rw [upd_same, take_more hz, List.map_append, List.map_append]
          rfl
      rintro H5 ⟨s5, eD2⟩
      rw [List.length_map, List.take_length] at eD2
      have b2 : ((st.map fun p => Str.empty ++ " " ++ fig p).map (·.length)).sum + (st.map fun p => Str.empty ++ " " ++ fig p).length * ("" : Str).length ≤ 610000 := by
        have := nums_lens hst
        have e2 : ("" : Str).length = 0 := rfl
        rw [List.length_map, e2]
        omega
      refine ⟨"", D2, st.map fun p => Str.empty ++ " " ++ fig p, rfl, rfl, .inl (SqL.of eD2), Nat.le_trans b2 (by decide), ?_⟩
      have j1 := Nat.le_trans (StrLaws.join_length_le " " (ws.map fig)) b1
      have j2 := Nat.le_trans (StrLaws.join_length_le "" (st.map fun p => Str.empty ++ " " ++ fig p)) b2
      rw [← StrLaws.glued_eq_join] at j1 j2
      have j1' : (Txt.join " " (ws.map fig)).length ≤ 610000 := j1
      have j2' : (Txt.join "" (st.map fun p => Str.empty ++ " " ++ fig p)).length ≤ 610000 := j2
      have e0 : Str.empty.length = 0 := rfl
      have e1 : (":" : Str).length = 1 := rfl
      refine ⟨_, rfl, .inl ⟨_, rfl, Nat.le_trans j1' (by decide), _, rfl, ?_, ":", rfl, ?_, _, rfl, .inl ⟨_, rfl, Nat.le_trans j2' (by decide), _, rfl, ?_, ?_⟩⟩⟩
      · rw [app_len]
        exact le_line5 (by omega)
      · rw [app_len, app_len]
        exact le_line5 (by omega)
      · rw [app_len, app_len, app_len]
        exact Nat.le_trans (show _ ≤ 2000000 by omega) (by decide)
      · exact q H5 (s14.trans s5)
end
end Ww
/-! texts of numbers: how they are cut -/
namespace Ww
open PySem PySem.Spec PyProof.Rows L2 TL
theorem mem_lit {c : Nat} (h : 48 ≤ c ∧ c ≤ 57) : c ∈ [48, 49, 50, 51, 52, 53, 54, 55, 56, 57] := by
  have e : c = 48 ∨ c = 49 ∨ c = 50 ∨ c = 51 ∨ c = 52 ∨ c = 53 ∨ c = 54 ∨ c = 55 ∨ c = 56 ∨ c = 57 := by omega
  simpa using e
theorem lit_mem {c : Nat} (h : c ∈ [48, 49, 50, 51, 52, 53, 54, 55, 56, 57]) : 48 ≤ c ∧ c ≤ 57 := by
  have e : c = 48 ∨ c = 49 ∨ c = 50 ∨ c = 51 ∨ c = 52 ∨ c = 53 ∨ c = 54 ∨ c = 55 ∨ c = 56 ∨ c = 57 := by simpa using h
  omega
theorem ascii_dig : ∀ c : Nat, c < 128 → PySem.Unicode.isDigit c = decide (48 ≤ c ∧ c ≤ 57) := by decide +kernel
theorem tl_fig {n : Int} (h : 0 ≤ n) : tl (fig n) = numL n.toNat := by
  have e : n = ((n.toNat : Nat) : Int) := by omega
  show tl (Str.ofString (toString n)) = _
  rw [e, tl_num]
  rfl
/-- a number's text -/
def Num (w : Str) (n : Int) : Prop := 0 ≤ n ∧ n < 10 ^ 60 ∧ w = fig n
theorem num_digits {w : Str} {n : Int} (h : Num w n) : PySem.NumText.AllDigits (tl w) := by
  rw [h.2.2, tl_fig h.1]
  exact numL_digits _
theorem num_ne {w : Str} {n : Int} (h : Num w n) : tl w ≠ [] := by
  rw [h.2.2, tl_fig h.1]
  exact numL_ne _
theorem num_len {w : Str} {n : Int} (h : Num w n) : w.length ≤ 60 := by
  rw [h.2.2]
  exact fig_len h.1 h.2.1
theorem num_val {w : Str} {n : Int} (h : Num w n) : ((PySem.NumText.digitsVal (tl w) : Nat) : Int) = n := by
  rw [h.2.2, tl_fig h.1, numL_val]
  have := h.1
  omega
theorem num_uniq {w : Str} {m n : Int} (h : Num w m) (h2 : Num w n) : m = n := (num_val h).symm.trans (num_val h2)
theorem val_lt : ∀ (k : Nat) (cs : List Nat), cs.length = k → PySem.NumText.AllDigits cs → PySem.NumText.digitsVal cs < 10 ^ k
  | 0, cs, e, _ => by
    rw [List.length_eq_zero_iff.mp e]
    decide
  | k + 1, cs, e, h => by
    rcases List.eq_nil_or_concat cs with rfl | ⟨u, c, rfl⟩
    · simp at e
    · rw [List.concat_eq_append] at *
      rw [List.length_append] at e
      have ih := val_lt k u (by simpa using e) fun d hd => h d (List.mem_append_left _ hd)
      have hc := h c (List.mem_append_right _ (List.mem_singleton.mpr rfl))
      rw [PySem.NumText.digitsVal_snoc, Nat.pow_succ]
      omega
theorem map_back : ∀ {cs : List Nat}, PySem.NumText.AllDigits cs → (cs.map Char.ofNat).map Char.toNat = cs
  | [], _ => rfl
  | c :: r, h => by
    have hc := h c List.mem_cons_self
    rw [List.map_cons, List.map_cons, map_back h.tail]
    have e : ∀ d : Nat, d < 58 → (Char.ofNat d).toNat = d := by decide
    rw [e c (by omega)]
/-- figures without a needless nought are a number's text -/
theorem num_of {w : Str} (h : PySem.NumText.AllDigits (tl w)) (h1 : tl w ≠ []) (h2 : w.length ≤ 60) (h3 : (tl w).head? = some 48 → tl w = [48]) : Num w ((PySem.NumText.digitsVal (tl w) : Nat) : Int) := by
  obtain ⟨c, r, e⟩ := List.exists_cons_of_ne_nil h1
  have hl : (tl w).length = r.length + 1 := by rw [e]; rfl
  have key : Nat.toDigits 10 (PySem.NumText.digitsVal (tl w)) = (tl w).map Char.ofNat := by
    refine PySem.NumText.toDigits_digitsVal r.length _ hl h ?_
    by_cases hc : c = 48
    · left
      have := h3 (by rw [e, hc]; rfl)
      rw [this] at hl
      simpa using hl.symm
    · right
      have := h c (by rw [e]; exact List.mem_cons_self)
      exact ⟨c, r, e, by omega⟩
  have hb := val_lt _ _ rfl h
  refine ⟨by omega, ?_, ext_tl ?_⟩
  · have h60 : 10 ^ (tl w).length ≤ 10 ^ 60 := Nat.pow_le_pow_right (by decide) (by rw [← len_tl]; exact h2)
    have : PySem.NumText.digitsVal (tl w) < 10 ^ 60 := Nat.lt_of_lt_of_le hb h60
    have e2 : ((10 : Int) ^ 60) = ((10 ^ 60 : Nat) : Int) := by decide +kernel
    rw [e2]
    exact Int.ofNat_lt.mpr this
  · rw [tl_fig (by omega)]
    show tl w = (Nat.toDigits 10 _).map Char.toNat
    rw [Int.toNat_natCast, key, map_back h]
theorem num_head {w : Str} {n : Int} (h : Num w n) (h0 : (tl w).head? = some 48) : tl w = [48] := by
  have e : ∀ m : Nat, (numL m).head? = some 48 → numL m = [48] := fun m => by
    induction m using Nat.strongRecOn with
    | _ m ih =>
      intro h
      by_cases hm : m < 10
      · rw [numL_lt hm] at h ⊢
        have : 48 + m = 48 := Option.some.inj h
        rw [this]
      · rw [numL_step (by omega)] at h
        have hne := numL_ne (m / 10)
        obtain ⟨z, zs, ez⟩ := List.exists_cons_of_ne_nil hne
        have h2 := ih (m / 10) (by omega) (by
          rw [ez] at h ⊢
          exact h)
        have h3 : numL (m / 10) = numL 0 := h2.trans (numL_lt (n := 0) (by decide)).symm
        have := numL_inj h3
        omega
  rw [h.2.2, tl_fig h.1] at h0 ⊢
  exact e _ h0
theorem num_int {w : Str} {n : Int} (h : Num w n) : PySem.intText? w = some n := by
  rw [PySem.intText_digits (num_digits h) (num_ne h) (Nat.le_trans (num_len h) (by decide))]
  exact congrArg some (num_val h)
/-- figures by the builtin's tests -/
theorem dig_of {w : Str} (h1 : Txt.isascii w = true) (h2 : Txt.isdigit w = true) : PySem.NumText.AllDigits (tl w) ∧ tl w ≠ [] := by
  unfold Txt.isascii at h1
  unfold Txt.isdigit at h2
  rw [Bool.and_eq_true] at h2
  have a1 := Array.all_eq_true'.mp h1
  have a2 := Array.all_eq_true'.mp h2.2
  refine ⟨fun c hc => ?_, fun e => ?_⟩
  · have hm : c ∈ w.cps := Array.mem_toList_iff.mp hc
    have b1 := of_decide_eq_true (a1 c hm)
    have b2 := a2 c hm
    rw [ascii_dig c b1] at b2
    exact of_decide_eq_true b2
  · have : 0 < w.length := by simpa using h2.1
    rw [len_tl, e] at this
    exact absurd this (by decide)
theorem of_dig {w : Str} (h : PySem.NumText.AllDigits (tl w)) (h1 : tl w ≠ []) : Txt.isascii w = true ∧ Txt.isdigit w = true := by
  refine ⟨Array.all_eq_true'.mpr fun c hc => ?_, ?_⟩
  · have := h c (Array.mem_toList_iff.mpr hc)
    exact decide_eq_true (by omega)
  · unfold Txt.isdigit
    rw [Bool.and_eq_true]
    refine ⟨decide_eq_true (by rw [len_tl]; exact List.length_pos_iff.mpr h1), Array.all_eq_true'.mpr fun c hc => ?_⟩
    have := h c (Array.mem_toList_iff.mpr hc)
    rw [ascii_dig c (by omega)]
    exact decide_eq_true this
/-! ### texts of several numbers -/
/-- a blank ahead of each -/
def spL (ps : List (List Nat)) : List Nat := (ps.map fun p => 32 :: p).flatten
theorem join_sp : ∀ (p : List Nat) (ps : List (List Nat)), joinL [32] (p :: ps) = p ++ spL ps
  | p, [] => (List.append_nil p).symm
  | p, q :: r => by
    show p ++ ([32] ++ joinL [32] (q :: r)) = p ++ (32 :: q ++ spL r)
    rw [join_sp q r]
    rfl
theorem join_fl : ∀ ps : List (List Nat), joinL [] ps = ps.flatten
  | [] => rfl
  | [p] => by simp [joinL]
  | p :: q :: r => by
    show p ++ ([] ++ joinL [] (q :: r)) = _
    rw [join_fl (q :: r)]
    rfl
theorem spL_len : ∀ ps : List (List Nat), ps.length ≤ (spL ps).length
  | [] => Nat.le_refl _
  | p :: r => by
    have := spL_len r
    show r.length + 1 ≤ (32 :: p ++ spL r).length
    rw [List.length_append, List.length_cons]
    omega
def ok60 (ns : List Int) : Prop := ∀ n ∈ ns, 0 ≤ n ∧ n < 10 ^ 60
/-- the text of numbers, a blank ahead of each -/
def numsT (ns : List Int) : Str := Txt.join "" (ns.map fun p => Str.empty ++ " " ++ fig p)
def figL (ns : List Int) : List (List Nat) := ns.map fun n => tl (fig n)
theorem tl_blank : tl (" " : Str) = [32] := tl_ofString " "
theorem tl_colon : tl (":" : Str) = [58] := tl_ofString ":"
theorem tl_no : tl ("" : Str) = [] := tl_ofString ""
theorem tl_empty : tl Str.empty = [] := rfl
theorem tl_nums (ns : List Int) : tl (numsT ns) = spL (figL ns) := by
  unfold numsT
  rw [join_eq, tl_join, tl_no, join_fl]
  unfold spL figL
  rw [List.map_map, List.map_map]
  congr 1
  refine List.map_congr_left fun n _ => ?_
  show tl (Str.empty ++ " " ++ fig n) = _
  rw [tl_append, tl_append, tl_blank]
  rfl
theorem nums_join (ns : List Int) : numsT ns = Txt.join " " (("" : Str) :: ns.map fig) := ext_tl (by
  rw [tl_nums, join_eq, tl_join, tl_blank, List.map_cons, join_sp, tl_no, List.map_map]
  rfl)
theorem sizes_join (n : Int) (ns : List Int) : (" " : Str) ++ Txt.join " " ((n :: ns).map fig) = numsT (n :: ns) := ext_tl (by
  rw [tl_nums, tl_append, join_eq, tl_join, tl_blank, List.map_cons, List.map_cons, join_sp, List.map_map]
  rfl)
theorem fig_free {n : Int} (h : 0 ≤ n) {s : Nat} (hs : s < 48 ∨ 57 < s) : s ∉ tl (fig n) := by
  rw [tl_fig h]
  exact numL_free hs
theorem all256 : (" " : Str).cps.all (· < 256) = true := by decide +kernel
theorem all256c : (":" : Str).cps.all (· < 256) = true := by decide +kernel
theorem split_nums {ns : List Int} (h : ok60 ns) : Txt.split (numsT ns) " " = ("" : Str) :: ns.map fig := by
  rw [nums_join]
  refine split_join tl_blank all256 (by simp) fun p hp => ?_
  rcases List.mem_cons.mp hp with rfl | hp
  · rw [tl_no]
    simp
  · obtain ⟨n, hn, rfl⟩ := List.mem_map.mp hp
    exact fig_free (h n hn).1 (.inl (by decide))
/-- what its parts make is the text -/
theorem nums_of {t : Str} {ps : List Str} {ns : List Int} (e : Txt.split t " " = ("" : Str) :: ps) (h : ps = ns.map fig) : t = numsT ns := by
  rw [nums_join, ← h, ← e, join_eq, StrLaws.join_split]
theorem split_ne (t y : Str) (hy : tl y ≠ []) (hk : y.cps.all (· < 256) = true) : ∃ p ps, Txt.split t y = p :: ps := by
  have e := split_spl t y hy (kind_ok hk)
  cases h : Txt.split t y with
  | cons p ps => exact ⟨p, ps, rfl⟩
  | nil =>
    rw [h] at e
    exfalso
    have : ∀ (S : List Nat) (l : List Nat) (k : Nat) (acc : List Nat), spl S k acc l ≠ [] := fun S l => by
      induction l with
      | nil => intro k acc; rw [spl_nil]; simp
      | cons c r ih =>
        intro k acc
        cases k with
        | zero =>
          show (if pre S (c :: r) = true then acc :: spl S (S.length - 1) [] r else spl S 0 (acc ++ [c]) r) ≠ []
          split
          · simp
          · exact ih _ _
        | succ k => exact ih _ _
    exact this _ _ _ _ e.symm
/-! ### the first colon -/
theorem first_of (c : Nat) : ∀ l : List Nat, c ∉ l ∨ ∃ a b, c ∉ a ∧ l = a ++ c :: b
  | [] => .inl (by simp)
  | d :: r => by
    by_cases h : d = c
    · exact .inr ⟨[], r, by simp, by rw [h]; rfl⟩
    · rcases first_of c r with h2 | ⟨a, b, h2, e⟩
      · exact .inl (by simp [h2, Ne.symm h])
      · exact .inr ⟨d :: a, b, by simp [h2, Ne.symm h], by rw [e]; rfl⟩
theorem cut_uniq {c : Nat} : ∀ {a a' b b' : List Nat}, c ∉ a → c ∉ a' → a ++ c :: b = a' ++ c :: b' → a = a' ∧ b = b'
  | [], [], _, _, _, _, e => ⟨rfl, (List.cons.inj e).2⟩
  | [], d :: a', _, _, _, h, e => by
    have := (List.cons.inj e).1
    exact absurd List.mem_cons_self (this ▸ h)
  | d :: a, [], _, _, h, _, e => by
    have := (List.cons.inj e).1
    exact absurd List.mem_cons_self (this ▸ h)
  | d :: a, d' :: a', _, _, h, h', e => by
    obtain ⟨e1, e2⟩ := List.cons.inj e
    obtain ⟨e3, e4⟩ := cut_uniq (fun m => h (List.mem_cons_of_mem _ m)) (fun m => h' (List.mem_cons_of_mem _ m)) e2
    exact ⟨by rw [e1, e3], e4⟩
theorem part_cases (t : Str) : (58 ∉ tl t ∧ Txt.partition t ":" = (t, Str.empty, Str.empty)) ∨ ∃ a c, 58 ∉ tl a ∧ t = a ++ ":" ++ c ∧ Txt.partition t ":" = (a, (":" : Str), c) := by
  rcases first_of 58 (tl t) with h | ⟨a, b, h, e⟩
  · exact .inl ⟨h, partition_none tl_colon h⟩
  · refine .inr ⟨⟨a.toArray⟩, ⟨b.toArray⟩, h, ?_⟩
    have et : t = (⟨a.toArray⟩ : Str) ++ ":" ++ ⟨b.toArray⟩ := ext_tl (by
      refine e.trans ?_
      rw [tl_append, tl_append, tl_colon, tl_mk, tl_mk]
      simp)
    exact ⟨et, by rw [et]; exact partition_app tl_colon h⟩
/-- a text that says wheels and a setting of them -/
def Good (t : Str) (ws st : List Int) : Prop := t = txtOf ws st ∧ (∀ x ∈ ws, 1 ≤ x ∧ x < 10 ^ 60) ∧ okS ws st
theorem good_60 {t : Str} {ws st : List Int} (h : Good t ws st) : ok60 ws ∧ ok60 st := by
  refine ⟨fun x hx => ⟨by have := (h.2.1 x hx).1; omega, (h.2.1 x hx).2⟩, fun x hx => ?_⟩
  obtain ⟨h0, z, hz, h1⟩ := okS_mem h.2.2 x hx
  have := (h.2.1 z hz).2
  exact ⟨h0, by omega⟩
theorem free_sizes {ws : List Int} (h : ok60 ws) : 58 ∉ tl (Txt.join " " (ws.map fig)) := by
  intro hm
  cases ws with
  | nil => exact absurd hm (by rw [List.map_nil, join_eq, tl_join]; simp [joinL])
  | cons n ns =>
    have e := congrArg tl (sizes_join n ns)
    rw [tl_append, tl_nums] at e
    have hm2 : 58 ∈ spL (figL (n :: ns)) := by
      rw [← e]
      exact List.mem_append_right _ hm
    obtain ⟨l, hl, hc⟩ := List.mem_flatten.mp hm2
    obtain ⟨p, hp, rfl⟩ := List.mem_map.mp hl
    obtain ⟨x, hx, rfl⟩ := List.mem_map.mp hp
    rcases List.mem_cons.mp hc with hc | hc
    · exact absurd hc (by decide)
    · exact fig_free (h x hx).1 (.inr (by decide)) hc
theorem free_nums {ns : List Int} (h : ok60 ns) : 58 ∉ tl (numsT ns) := by
  intro hm
  rw [tl_nums] at hm
  obtain ⟨l, hl, hc⟩ := List.mem_flatten.mp hm
  obtain ⟨p, hp, rfl⟩ := List.mem_map.mp hl
  obtain ⟨x, hx, rfl⟩ := List.mem_map.mp hp
  rcases List.mem_cons.mp hc with hc | hc
  · exact absurd hc (by decide)
  · exact fig_free (h x hx).1 (.inr (by decide)) hc
theorem empty_app (x : Str) : Str.empty ++ x = x := ext_tl (by rw [tl_append]; rfl)
theorem txt_eq (ws st : List Int) : txtOf ws st = Txt.join " " (ws.map fig) ++ ":" ++ numsT st := by
  show Str.empty ++ Txt.join " " (ws.map fig) ++ ":" ++ _ = _
  rw [empty_app]
  rfl
/-- cut at the first colon -/
theorem good_cut {a c : Str} {ws st : List Int} (ha : 58 ∉ tl a) (h : Good (a ++ ":" ++ c) ws st) : a = Txt.join " " (ws.map fig) ∧ c = numsT st := by
  have e := congrArg tl h.1
  rw [txt_eq, tl_append, tl_append, tl_append, tl_append, tl_colon, List.append_assoc, List.append_assoc] at e
  obtain ⟨e1, e2⟩ := cut_uniq ha (free_sizes (good_60 h).1) e
  exact ⟨ext_tl e1, ext_tl e2⟩
theorem good_colon {t : Str} {ws st : List Int} (h : Good t ws st) : 58 ∈ tl t := by
  rw [h.1, txt_eq, tl_append, tl_append, tl_colon]
  simp
theorem sizes_none : Txt.join " " (([] : List Int).map fig) = ("" : Str) := rfl
theorem sizes_some {n : Int} {ns : List Int} : Txt.join " " ((n :: ns).map fig) ≠ ("" : Str) ∨ ¬ 0 ≤ n := by
  by_cases h : 0 ≤ n
  · left
    intro e
    have e2 := congrArg tl e
    rw [join_eq, tl_join, tl_blank, List.map_cons, List.map_cons, join_sp, tl_no, tl_fig h] at e2
    exact numL_ne _ (List.append_eq_nil_iff.mp e2).1
  · exact .inr h
theorem nums_len (ns : List Int) : ns.length ≤ (numsT ns).length := by
  have := spL_len (figL ns)
  rw [← tl_nums, ← len_tl] at this
  unfold figL at this
  rw [List.length_map] at this
  exact this
theorem good_len {t : Str} {ws st : List Int} (h : Good t ws st) : ws.length ≤ t.length := by
  have e := nums_len st
  rw [← okS_len h.2.2, h.1, txt_eq, app_len]
  omega
/-! ### signs taken off both ends: strip -/
theorem take_all {p : Nat → Bool} : ∀ {l : List Nat}, (∀ c ∈ l, p c = true) → l.takeWhile p = l
  | [], _ => rfl
  | c :: r, h => by
    rw [List.takeWhile_cons, if_pos (h c List.mem_cons_self), take_all fun d hd => h d (List.mem_cons_of_mem _ hd)]
theorem take_less {p : Nat → Bool} : ∀ {l : List Nat}, (∃ c ∈ l, p c = false) → (l.takeWhile p).length < l.length
  | [], h => by simp at h
  | c :: r, h => by
    rw [List.takeWhile_cons]
    by_cases hc : p c = true
    · rw [if_pos hc, List.length_cons, List.length_cons]
      obtain ⟨d, hd, hp⟩ := h
      rcases List.mem_cons.mp hd with rfl | hd
      · rw [hc] at hp
        cases hp
      · have := take_less (p := p) (l := r) ⟨d, hd, hp⟩
        omega
    · rw [if_neg hc]
      simp
theorem take_stop {p : Nat → Bool} : ∀ {l : List Nat}, (∃ c ∈ l, p c = false) → ∃ c ∈ l.drop (l.takeWhile p).length, p c = false
  | [], h => by simp at h
  | c :: r, h => by
    rw [List.takeWhile_cons]
    by_cases hc : p c = true
    · rw [if_pos hc, List.length_cons, List.drop_succ_cons]
      obtain ⟨d, hd, hp⟩ := h
      rcases List.mem_cons.mp hd with rfl | hd
      · rw [hc] at hp
        cases hp
      · exact take_stop (p := p) (l := r) ⟨d, hd, hp⟩
    · rw [if_neg hc]
      exact h
def goes10 : Nat → Bool := ("0123456789" : Str).cps.contains
theorem goes_iff (c : Nat) : goes10 c = true ↔ 48 ≤ c ∧ c ≤ 57 := by
  have e : ("0123456789" : Str).cps = #[48, 49, 50, 51, 52, 53, 54, 55, 56, 57] := Array.toList_inj.mp (tl_ofString "0123456789")
  unfold goes10
  rw [e]
  constructor
  · intro h
    refine lit_mem ?_
    have := Array.contains_iff_mem.mp h
    simpa using this
  · intro h
    refine Array.contains_iff_mem.mpr ?_
    have := mem_lit h
    simpa using this
theorem strip_all {w : Str} (h : PySem.NumText.AllDigits (tl w)) : Txt.stripChars w "0123456789" = ("" : Str) := by
  have ha : ∀ c ∈ tl w, goes10 c = true := fun c hc => (goes_iff c).mpr (h c hc)
  unfold Txt.stripChars Txt.stripBy
  refine ext_tl ?_
  rw [tl_no]
  split
  · rename_i hs
    unfold stripSame at hs
    rw [Bool.and_eq_true] at hs
    have e : (((tl w).takeWhile goes10).length == 0) = true := hs.1
    rw [take_all ha] at e
    exact List.length_eq_zero_iff.mp (by simpa using e)
  · unfold stripped
    rw [tl_strSub]
    have e : stripLo ("0123456789" : Str).cps.contains true w = (tl w).length := congrArg List.length (take_all ha)
    rw [e, List.drop_length]
    simp
theorem strip_not {w : Str} (h : ¬ PySem.NumText.AllDigits (tl w)) : Txt.stripChars w "0123456789" ≠ ("" : Str) := by
  have ha : ∃ c ∈ tl w, goes10 c = false := by
    apply Classical.byContradiction
    intro hn
    refine h fun c hc => (goes_iff c).mp ?_
    cases e : goes10 c with
    | true => rfl
    | false => exact absurd ⟨c, hc, e⟩ hn
  intro hz
  have hz := congrArg tl hz
  rw [tl_no] at hz
  unfold Txt.stripChars Txt.stripBy at hz
  split at hz
  · obtain ⟨c, hc, _⟩ := ha
    rw [hz] at hc
    cases hc
  · unfold stripped at hz
    rw [tl_strSub] at hz
    have e : stripLo ("0123456789" : Str).cps.contains true w = ((tl w).takeWhile goes10).length := rfl
    rw [e] at hz
    obtain ⟨c, hc, hp⟩ := take_stop ha
    have e2 : stripHi ("0123456789" : Str).cps.contains true w ((tl w).takeWhile goes10).length = w.length - (((tl w).drop ((tl w).takeWhile goes10).length).reverse.takeWhile goes10).length := rfl
    rw [e2] at hz
    have l1 := take_less ha
    have l2 := take_less (p := goes10) (l := ((tl w).drop ((tl w).takeWhile goes10).length).reverse) ⟨c, List.mem_reverse.mpr hc, hp⟩
    rw [List.length_reverse, List.length_drop] at l2
    have l3 := congrArg List.length hz
    rw [List.length_take, List.length_drop, List.length_nil, len_tl] at l3
    omega
/-! ### colons counted -/
theorem len_split (x y : Str) (hy : tl y ≠ []) (hk : y.cps.all (· < 256) = true) : ((Txt.split x y).length : Int) = Txt.count x y + 1 := by
  obtain ⟨f, g, hn⟩ := StrLaws.occ_tight x y (len1 hy)
  unfold Txt.split Txt.count
  by_cases h1 : (decide (x.length < y.length) || decide (Builtin.Str.strKind x < Builtin.Str.strKind y)) = true
  · rw [if_pos h1]
    have hlt : x.length < y.length := by
      simp only [Bool.or_eq_true, decide_eq_true_eq] at h1
      rcases h1 with h | h
      · exact h
      · exact absurd h (kind_ok hk)
    cases ho : Builtin.Str.occurrences x y 0 x.length (x.length + 1) with
    | nil => rfl
    | cons c r =>
      rw [ho] at g
      have hc : c + y.length ≤ x.length := g.2.1.1
      omega
  · rw [if_neg h1]
    by_cases h2 : (Builtin.Str.occurrences x y 0 x.length (x.length + 1)).isEmpty = true
    · rw [if_pos h2, List.isEmpty_iff.mp h2]
      rfl
    · rw [if_neg h2, length_partsBetween]
      omega
theorem cut_app (a c : Str) (ha : 58 ∉ tl a) : (Txt.split (a ++ ":" ++ c) ":").map tl = tl a :: spl [58] 0 [] (tl c) := by
  rw [split_spl _ ":" (by rw [tl_colon]; simp) (kind_ok all256c), tl_append, tl_append, tl_colon, List.append_assoc]
  exact spl_part1 (S := []) (acc := []) ha
theorem count_cases (t : Str) : (58 ∉ tl t ∧ Txt.count t ":" ≠ 1) ∨ (∃ a c, 58 ∉ tl a ∧ 58 ∉ tl c ∧ t = a ++ ":" ++ c ∧ Txt.count t ":" = 1 ∧ Txt.split t ":" = [a, c]) ∨ (∃ a c, 58 ∉ tl a ∧ 58 ∈ tl c ∧ t = a ++ ":" ++ c ∧ Txt.count t ":" ≠ 1) := by
  have hl := len_split t ":" (by rw [tl_colon]; simp) all256c
  rcases part_cases t with ⟨h, _⟩ | ⟨a, c, h, e, _⟩
  · refine .inl ⟨h, ?_⟩
    have e := congrArg List.length (split_spl t ":" (by rw [tl_colon]; simp) (kind_ok all256c))
    rw [tl_colon, spl_last1 h, List.length_map] at e
    rw [e] at hl
    intro h1
    have hl : (1 : Int) = Txt.count t ":" + 1 := hl
    omega
  · have es := cut_app a c h
    by_cases h2 : 58 ∈ tl c
    · refine .inr (.inr ⟨a, c, h, h2, e, fun h1 => ?_⟩)
      rcases first_of 58 (tl c) with h3 | ⟨a', b', h3, e3⟩
      · exact h3 h2
      · have e4 := congrArg List.length es
        rw [← e, e3, List.length_map, show a' ++ 58 :: b' = a' ++ ([58] ++ b') from rfl, spl_part1 h3, List.length_cons, List.length_cons] at e4
        rw [h1] at hl
        have : (Txt.split t ":").length = 2 := by omega
        rw [this] at e4
        have e5 : (spl [58] 0 [] b').length = 0 := by omega
        obtain ⟨p, ps, e6⟩ := split_ne (⟨b'.toArray⟩ : Str) ":" (by rw [tl_colon]; simp) all256c
        have e7 := congrArg List.length (split_spl (⟨b'.toArray⟩ : Str) ":" (by rw [tl_colon]; simp) (kind_ok all256c))
        rw [e6, List.length_map, tl_colon, tl_mk, e5] at e7
        simp at e7
    · rw [spl_last1 h2] at es
      have e5 : Txt.split t ":" = [a, c] := by
        rw [e]
        exact map_tl_inj es
      rw [e5] at hl
      refine .inr (.inl ⟨a, c, h, h2, e, ?_, e5⟩)
      have : ((2 : Nat) : Int) = Txt.count t ":" + 1 := hl
      omega
end Ww
/-! texts.py: read -/
namespace Ww
open PySem PySem.Spec PyProof.Rows L2 TL
/-- of a def that may raise, called where nothing is let out: here it doesn't -/
theorem passZ {X : Cx} : Passes (L2N.CX X.prog X.w) X E0 := fun _ _ _ _ _ _ _ h => by
  obtain ⟨_, _, _, _, _, _, _, _, _, _, _, _, hE⟩ := h
  exact hE.elim
theorem mem_joinL {S p : List Nat} : ∀ {ps : List (List Nat)}, p ∈ ps → p.length ≤ (joinL S ps).length
  | [], h => by cases h
  | [q], h => by
    rw [List.mem_singleton.mp h]
    exact Nat.le_refl _
  | q :: r :: rs, h => by
    show p.length ≤ (q ++ (S ++ joinL S (r :: rs))).length
    rw [List.length_append, List.length_append]
    rcases List.mem_cons.mp h with rfl | h
    · omega
    · have := mem_joinL (S := S) h
      omega
theorem part_len {t y p : Str} (h : p ∈ Txt.split t y) : p.length ≤ t.length := by
  have e := congrArg tl (StrLaws.join_split t y)
  rw [tl_join] at e
  have h2 := mem_joinL (S := tl y) (List.mem_map_of_mem (f := tl) h)
  rw [e, ← len_tl, ← len_tl] at h2
  exact h2
theorem map_str_at {ns : List Str} {i : Nat} {y : V} (h : (ns.map V.str)[i]? = some y) : ∃ z, ns[i]? = some z ∧ y = V.str z := by
  rw [List.getElem?_map] at h
  cases e : ns[i]? with
  | none => rw [e] at h; cases h
  | some z => rw [e] at h; exact ⟨z, rfl, (Option.some.inj h).symm⟩
theorem map_fig_inj : ∀ {l m : List Int}, ok60 l → ok60 m → l.map fig = m.map fig → l = m
  | [], [], _, _, _ => rfl
  | [], _ :: _, _, _, h => by simp at h
  | _ :: _, [], _, _, h => by simp at h
  | x :: l, y :: m, h1, h2, h => by
    rw [List.map_cons, List.map_cons] at h
    injection h with e1 e2
    have hx := h1 x List.mem_cons_self
    have hy := h2 y List.mem_cons_self
    rw [num_uniq (w := fig x) ⟨hx.1, hx.2, rfl⟩ ⟨hy.1, hy.2, e1⟩, map_fig_inj (fun z hz => h1 z (List.mem_cons_of_mem _ hz)) (fun z hz => h2 z (List.mem_cons_of_mem _ hz)) e2]
theorem nums_inj {l m : List Int} (h1 : ok60 l) (h2 : ok60 m) (h : numsT l = numsT m) : l = m := by
  have e := congrArg (fun t => Txt.split t " ") h
  simp only [split_nums h1, split_nums h2] at e
  exact map_fig_inj h1 h2 (List.cons.inj e).2
theorem okS_one : ∀ {ws st : List Int}, okS ws st → ∀ x ∈ ws, 1 ≤ x
  | [], [], _, x, h => by cases h
  | [], _ :: _, h, _, _ => h.elim
  | _ :: _, [], h, _, _ => h.elim
  | s :: ws, q :: st, h, x, hx => by
    rcases List.mem_cons.mp hx with rfl | hx
    · have h1 := h.1
      have h2 := h.2.1
      omega
    · exact okS_one h.2.2 x hx
/-- what stands ahead of the colon: nothing, or sizes -/
theorem sizes_of {a : Str} {ws : List Int} (h : (" " : Str) ++ a = numsT ws) : a = Txt.join " " (ws.map fig) := by
  cases ws with
  | nil =>
    have e := congrArg tl h
    rw [tl_append, tl_blank, tl_nums] at e
    exact absurd e (by simp [spL, figL])
  | cons n ns =>
    rw [← sizes_join] at h
    have e := congrArg tl h
    rw [tl_append, tl_append] at e
    exact ext_tl (List.append_cancel_left e)
theorem sizes_to {a : Str} {ws : List Int} (ha : a ≠ "") (h : a = Txt.join " " (ws.map fig)) : (" " : Str) ++ a = numsT ws := by
  cases ws with
  | nil => exact absurd h ha
  | cons n ns => rw [h, sizes_join]
theorem sizes_nil {ws : List Int} (h6 : ok60 ws) (h : ("" : Str) = Txt.join " " (ws.map fig)) : ws = [] := by
  cases ws with
  | nil => rfl
  | cons n ns =>
    rcases sizes_some (n := n) (ns := ns) with h2 | h2
    · exact absurd h.symm h2
    · exact absurd (h6 n List.mem_cons_self).1 h2
section
variable {P : Program} {w : World} {K : PySem.W.Frag} {mg : Str → Option Value} {base : Heap}
/-- a word: a number's text, or refused -/
def sp_number (D : Addr) : Sp := fun vs H Q E => ∃ t : Str, vs = [.str t] ∧ t.length ≤ 100000 ∧ (∀ n, Num t n → Q (.int n) H) ∧ ((∀ n, ¬ Num t n) → E (.ref D) none H)
theorem x_number {CT : Addr} (D : Df K mg "_number" s_number ["word"]) (B : Bi mg) (T_BadText : Err K mg "BadText" CT) (mF : ∃ t, mg "MOST_FIGURES" = some (.int 60 t)) : OkX P w K mg base "_number" ["word"] 1 (sp_number CT) := by
  refine D.okX sc_number (fun vs H Q E h => ?_) (fun f cdv A outer s H vs Q E hr h => ?_)
  · obtain ⟨t, rfl, _⟩ := h
    rfl
  · obtain ⟨t, rfl, hl, q, e⟩ := h
    obtain ⟨tk, c_MOST_FIGURES⟩ := mF
    refine ⟨_, (pss_cons (ps_if (PW.pt (pw_or (pt_cmpR op_gt (pe_callB call_len_str (by rfl) B.len PySem.boot_len (pa_cons (pv 0) pa_nil)) (pe_glob (by rfl) c_MOST_FIGURES (v := .int 60) ⟨_, rfl⟩) (nomark _)) (pw_or (pt_not (pt_val (pe_bm0 PySem.F.plainAttrs_str PySem.F.slot_str_isascii PySem.F.type_str_isascii mt_isascii (pv 0)))) (pw_or1 (pt_not (pt_val (pe_bm0 PySem.F.plainAttrs_str PySem.F.slot_str_isdigit PySem.F.type_str_isdigit mt_isdigit (pv 0))))))))
        (pss_one (ps_err T_BadText rfl (L2N.takes_of rfl rfl rfl rfl)))
        pss_nil)
      (pss_cons (ps_set (i := 1) sc_number.nd rfl (.inl rfl) (pe_callTy call_int_str (by rfl) B.int boot_int (pa_cons (pv 0) pa_nil)))
      (pss_cons (ps_if (pt_cmpR op_ne (pe_callTy call_str_int (by rfl) B.str boot_str (pa_cons (pv 1) pa_nil)) (pv 0) (nomark _))
        (pss_one (ps_err T_BadText rfl (L2N.takes_of rfl rfl rfl rfl)))
        pss_nil)
      (pss_one (ps_ret (pv 1)))))), ?_⟩
    have noN : ¬ (PySem.NumText.AllDigits (tl t) ∧ tl t ≠ [] ∧ t.length ≤ 60) → ∀ n, ¬ Num t n := fun h n hn => h ⟨num_digits hn, num_ne hn, num_len hn⟩
    refine ⟨_, rfl, t, rfl, le_line hl, _, _, rfl, rfl, _, rfl, ite2 (fun c => ?_) (fun c => ?_)⟩
    · exact e (noN fun h => by have := of_decide_eq_true c; omega)
    have h60 : t.length ≤ 60 := by
      have : ¬ (60 : Int) < t.length := fun h => c (decide_eq_true h)
      omega
    refine ⟨_, rfl, rfl, t, rfl, rfl, trivial, _, rfl, ?_⟩
    cases ea : Txt.isascii t with
    | false => exact e (noN fun h => by rw [(of_dig h.1 h.2.1).1] at ea; cases ea)
    | true =>
    refine ⟨_, rfl, rfl, t, rfl, rfl, trivial, _, rfl, ?_⟩
    cases ed : Txt.isdigit t with
    | false => exact e (noN fun h => by rw [(of_dig h.1 h.2.1).2] at ed; cases ed)
    | true =>
    obtain ⟨hd, hne⟩ := dig_of ea ed
    have hv := val_lt _ _ rfl hd
    have hb : ((PySem.NumText.digitsVal (tl t) : Nat) : Int) < 10 ^ 60 := by
      have h6 : 10 ^ (tl t).length ≤ 10 ^ 60 := Nat.pow_le_pow_right (by decide) (by rw [← len_tl]; exact h60)
      have e2 : ((10 : Int) ^ 60) = ((10 ^ 60 : Nat) : Int) := by decide +kernel
      rw [e2]
      exact Int.ofNat_lt.mpr (Nat.lt_of_lt_of_le hv h6)
    refine ⟨_, rfl, t, _, rfl, PySem.intText_digits hd hne (Nat.le_trans h60 (by decide)), Nat.le_trans h60 (by decide), ?_⟩
    refine ⟨_, rfl, _, rfl, fig_bits (by omega) hb, _, rfl, rfl, _, rfl, ite2 (fun c2 => ?_) (fun c2 => ?_)⟩
    · refine e fun n hn => ?_
      have hf : fig ((PySem.NumText.digitsVal (tl t) : Nat) : Int) = t := by
        rw [num_val hn]
        exact hn.2.2.symm
      have c3 : (!decide (V.str (fig ((PySem.NumText.digitsVal (tl t) : Nat) : Int)) = V.str t)) = true := c2
      rw [hf] at c3
      simp at c3
    · refine ⟨_, rfl, q _ ⟨by omega, hb, ?_⟩⟩
      have c3 : ¬ (!decide (V.str (fig ((PySem.NumText.digitsVal (tl t) : Nat) : Int)) = V.str t)) = true := c2
      have c4 : V.str (fig ((PySem.NumText.digitsVal (tl t) : Nat) : Int)) = V.str t := by simpa using c3
      exact (V.str.inj c4).symm
/-- numbers, a blank ahead of each, or refused -/
def sp_numbers (D : Addr) : Sp := fun vs H Q E => ∃ t : Str, vs = [.str t] ∧ t.length ≤ 15000 ∧ (∀ ns : List Int, ok60 ns → t = numsT ns → ∀ (p : Addr) (H' : Hp), Same H H' → H p = none → H' p = some (.lst (ns.map V.int)) → Q (.ref p) H') ∧ ((∀ ns, ok60 ns → t ≠ numsT ns) → ∀ H', Same H H' → E (.ref D) none H')
theorem x_numbers {CT : Addr} (D : Df K mg "_numbers" s_numbers ["text"]) (B : Bi mg) (T_BadText : Err K mg "BadText" CT) (X_number : OkX P w K mg base "_number" ["word"] 1 (sp_number CT)) : OkX P w K mg base "_numbers" ["text"] 2 (sp_numbers CT) := by
  refine D.okX sc_numbers (fun vs H Q E h => ?_) (fun f cdv A outer s H vs Q E hr h => ?_)
  · obtain ⟨t, rfl, _⟩ := h
    rfl
  · obtain ⟨t, rfl, hl, q, e⟩ := h
    refine ⟨_, (pss_cons (ps_asg (pe_split (pv 0) pe_str) (pg_star1 rfl (pgs_cons (pg_name (i := 1) sc_numbers.nd rfl (.inl rfl)) (pgs_star (pg_name (i := 2) sc_numbers.nd rfl (.inl rfl)) pgs_nil))))
      (pss_cons (ps_if (pt_cmpR op_ne (pv 1) pe_str (nomark _))
        (pss_one (ps_err T_BadText rfl (L2N.takes_of rfl rfl rfl rfl)))
        pss_nil)
      (pss_one (ps_ret (pe_lcX (own := [("word", 3)]) (g := gName 3) (tt := tYes) (L2N.takes_of rfl rfl rfl rfl) (fun _ _ _ _ h => h) rfl rfl rfl sc_numbers.nd (pi_list (pv 2)) (blkOk_by (own := [("word", 3)]) (N := ["text", "first", "words", "word"]) (sc := defScope s_numbers) (by decide +kernel)) (fun _ _ _ _ _ => pg_name (i := 3) sc_numbers.nd rfl (.inl rfl)) (fun _ _ _ _ _ => pts_nil) (fun _ _ _ _ _ xe_ hx_ => (pe_okX X_number hr (by decide) hx_ (pa_cons (pv 3) pa_nil)))))))), ?_⟩
    obtain ⟨p, ps, ep⟩ := split_ne t " " (by rw [tl_blank]; simp) all256
    have hps : ps.length ≤ 15001 := by
      have h1 := PyProof.Rows.split_le t " "
      rw [ep, List.length_cons] at h1
      omega
    have hno : ∀ ns, ok60 ns → t = numsT ns → p = "" ∧ ps = ns.map fig := fun ns h1 h2 => by
      rw [h2, split_nums h1] at ep
      exact ⟨(List.cons.inj ep).1.symm, (List.cons.inj ep).2.symm⟩
    refine ⟨_, rfl, ⟨t, rfl⟩, t, " ", rfl, rfl, (by decide), le_line5 (by omega), fun p1 n1 => ?_⟩
    rw [ep]
    refine ⟨p1, .str p, ps.map V.str, rfl, SqL.of upd_same, (by rw [List.length_map]; omega), fun p2 n2 => ?_⟩
    refine ⟨.str p, [.ref p2], rfl, .ref p2, [], rfl, rfl, ?_⟩
    generalize eH : upd (upd H p1 (.lst ((p :: ps).map V.str))) p2 (.lst (ps.map V.str)) = H2
    have s2 : Same H H2 := eH ▸ (same_upd n1).trans (same_upd n2)
    have e2 : H2 p2 = some (.lst (ps.map V.str)) := eH ▸ upd_same
    refine ⟨_, rfl, rfl, _, rfl, ?_⟩
    by_cases hp : p = ""
    rotate_left
    · rw [decide_eq_false (show ¬ V.str p = V.str "" from fun h => hp (V.str.inj h))]
      exact e (fun ns h1 h2 => hp (hno ns h1 h2).1) H2 s2
    rw [decide_eq_true (show V.str p = V.str "" from congrArg V.str hp)]
    refine ⟨_, rfl, p2, rfl, ⟨_, SqL.of e2⟩, fun D nD => ?_⟩
    refine lc_list (K := K) (a := p2) (xs := ps.map V.str) (fun i H4 => ∃ ns, ok60 ns ∧ ns.map fig = ps.take i ∧ Same H2 H4 ∧ H4 D = some (.lst (ns.map V.int))) ⟨[], (fun _ h => by cases h), rfl, same_upd nD, upd_same⟩ (fun i H4 _ h => h.choose_spec.2.2.1.seq (SqL.of e2)) ?_ ?_
    · rintro i x H4 hx ⟨ns, h60, hf, s4, eD⟩
      obtain ⟨z, hz, rfl⟩ := map_str_at hx
      have hi : i < ps.length := (List.getElem?_eq_some_iff.mp hz).1
      have hzm : z ∈ Txt.split t " " := by
        rw [ep]
        exact List.mem_cons_of_mem _ (List.mem_of_getElem? hz)
      refine ⟨rfl, _, rfl, z, rfl, (by have := part_len hzm; omega), fun n hn => ?_, fun hn => ?_⟩
      · refine ⟨_, eD, ?_, ns ++ [n], ?_, ?_, ?_, ?_⟩
        · have h5 := congrArg List.length hf
          rw [List.length_map, List.length_take] at h5
          rw [List.length_map]
          exact lt_line (by omega)
        · intro m hm
          rcases List.mem_append.mp hm with hm | hm
          · exact h60 m hm
          · rw [List.mem_singleton.mp hm]
            exact ⟨hn.1, hn.2.1⟩
        · rw [take_more hz, List.map_append, hf, hn.2.2]
          rfl
        · intro d u e
          rw [upd_ne (ne_of_none e nD)]
          exact s4 _ _ e
        · rw [upd_same, List.map_append]
          rfl
      · refine e (fun ms h1 h2 => ?_) H4 (s2.trans s4)
        have h3 := (hno ms h1 h2).2
        rw [h3, List.getElem?_map] at hz
        cases em : ms[i]? with
        | none => rw [em] at hz; cases hz
        | some m =>
          rw [em] at hz
          have hm := h1 m (List.mem_of_getElem? em)
          exact hn m ⟨hm.1, hm.2, (Option.some.inj hz).symm⟩
    · rintro H4 ⟨ns, h60, hf, s4, eD⟩
      rw [List.length_map, List.take_length] at hf
      have et : t = numsT ns := by
        refine nums_of (ps := ps) ?_ hf.symm
        rw [ep, hp]
      exact q ns h60 et D H4 (s2.trans s4) (s2.free nD) eD
/-- no text -/
def NoStr (K : PySem.W.Frag) (H : Hp) (v : V) : Prop := ∃ t : String, TyX K H v (.type t) ∧ kitB t "str" = some false
/-- what is read: wheels and a setting of them, or refused -/
def sp_read (K : PySem.W.Frag) (D : Addr) : Sp := fun vs H Q E => ∃ v : V, vs = [v] ∧ ((∃ t : Str, v = .str t ∧ t.length ≤ 10000 ∧
    (∀ ws st : List Int, Good t ws st → ∀ (p a b : Addr) (H' : Hp), Same H H' → H p = none → H a = none → H b = none → a ≠ b → H' p = some (.tup [.ref a, .ref b]) → H' a = some (.lst (ws.map V.int)) → H' b = some (.lst (st.map V.int)) → Q (.ref p) H') ∧
    ((∀ ws st, ¬ Good t ws st) → ∀ H', Same H H' → E (.ref D) none H')) ∨ (NoStr K H v ∧ ∀ H', Same H H' → E (.ref D) none H'))
theorem x_read {CT : Addr} (D : Df K mg "read" s_read ["text"]) (B : Bi mg) (T_BadText : Err K mg "BadText" CT) (X_numbers : OkX P w K mg base "_numbers" ["text"] 2 (sp_numbers CT)) (G_is_setting : Ok P w K mg base "is_setting" ["wheels", "setting"] 2 (sp_is_set K)) :
    OkX P w K mg base "read" ["text"] 12 (sp_read K CT) := by
  refine OkC.mono (k := 3) (D.okX sc_read (fun vs H Q E h => ?_) (fun f cdv A outer s H vs Q E hr h => ?_)) (by decide)
  · obtain ⟨v, rfl, _⟩ := h
    rfl
  · obtain ⟨v, rfl, h⟩ := h
    refine ⟨_, (pss_cons (ps_if (pt_not (pt_val (pe_callB (isiK K) (by rfl) B.isinstance (by decide +kernel) (pa_cons (pv 0) (pa_cons (pe_bltn (v := .ty "str") (by rfl) B.str boot_str rfl) pa_nil)))))
        (pss_one (ps_err T_BadText rfl (L2N.takes_of rfl rfl rfl rfl)))
        pss_nil)
      (pss_cons (ps_asg (pe_partition (pv 0) pe_str) (pg_tup rfl (pgs_cons (pg_name (i := 1) sc_read.nd rfl (.inl rfl)) (pgs_cons (pg_name (i := 2) sc_read.nd rfl (.inl rfl)) (pgs_cons (pg_name (i := 3) sc_read.nd rfl (.inl rfl)) pgs_nil)))))
      (pss_cons (ps_if (pt_cmpR op_eq (pv 2) pe_str (nomark _))
        (pss_one (ps_err T_BadText rfl (L2N.takes_of rfl rfl rfl rfl)))
        pss_nil)
      (pss_cons (ps_set (i := 4) sc_read.nd rfl (.inl rfl) (pe_lst pa_nil))
      (pss_cons (ps_if (pt_cmpR op_ne (pv 1) pe_str (nomark _))
        (pss_one (ps_set (i := 4) sc_read.nd rfl (.inl rfl) (pe_okX X_numbers hr (by decide) (L2N.passes_call (L2N.takes_of rfl rfl rfl rfl) (fun _ _ _ _ h => h)) (pa_cons (pe_op op_add_str pe_str (pv 1)) pa_nil))))
        pss_nil)
      (pss_cons (ps_set (i := 5) sc_read.nd rfl (.inl rfl) (pe_okX X_numbers hr (by decide) (L2N.passes_call (L2N.takes_of rfl rfl rfl rfl) (fun _ _ _ _ h => h)) (pa_cons (pv 3) pa_nil)))
      (pss_cons (ps_if (pt_not (pt_val (pe_ok G_is_setting hr (by decide) (pa_cons (pv 4) (pa_cons (pv 5) pa_nil)))))
        (pss_one (ps_err T_BadText rfl (L2N.takes_of rfl rfl rfl rfl)))
        pss_nil)
      (pss_one (ps_ret (pe_tup (pa_cons (pv 4) (pa_cons (pv 5) pa_nil)))))))))))), ?_⟩
    rcases h with ⟨t, rfl, hl, q, e⟩ | ⟨⟨ty, hty, hk⟩, e⟩
    rotate_left
    · refine ⟨_, rfl, _, _, _, _, false, rfl, .ty "str", hty, kit_ty hk, _, rfl, ?_⟩
      exact e H (Same.refl H)
    refine ⟨_, rfl, _, _, _, _, true, rfl, .ty "str", .base (.str t), kit_ty (by decide +kernel), _, rfl, ?_⟩
    have one : (":" : Str).length = 1 := rfl
    have two : (" " : Str).length = 1 := rfl
    refine ⟨_, rfl, ⟨t, rfl⟩, t, ":", rfl, rfl, (by decide), le_line (by omega), fun p0 n0 => ?_⟩
    refine ⟨p0, _, rfl, SqT.of upd_same, rfl, .str _, _, rfl, .str _, _, rfl, .str _, [], rfl, rfl, ?_⟩
    rcases part_cases t with ⟨hc, ep⟩ | ⟨a, c, ha, et, ep⟩
    · rw [ep]
      refine ⟨_, rfl, rfl, _, rfl, ?_⟩
      rw [decide_eq_true (show V.str Str.empty = V.str "" from rfl)]
      exact e (fun ws st h => hc (good_colon h)) _ (same_upd n0)
    rw [ep]
    refine ⟨_, rfl, rfl, _, rfl, ?_⟩
    rw [decide_eq_false (show ¬ V.str (":" : Str) = V.str "" from by decide +kernel)]
    have hlen : a.length + 1 + c.length ≤ 10000 := by
      rw [et, app_len, app_len] at hl
      omega
    refine ⟨(by show 0 ≤ sizeLine; decide), fun p1 n1 => ?_⟩
    generalize eH : upd (upd H p0 _) p1 (.lst []) = H2
    have sW : Same H H2 := eH ▸ (same_upd n0).trans (same_upd n1)
    have eW : H2 p1 = some (.lst (([] : List Int).map V.int)) := eH ▸ upd_same
    have nW : H p1 = none := (same_upd n0).free n1
    refine ⟨_, rfl, rfl, _, rfl, ?_⟩
    by_cases hae : a = ""
    · rw [decide_eq_true (show V.str a = V.str "" from congrArg V.str hae)]
      have hws : ∀ ws' st', Good t ws' st' → ws' = [] := fun ws' st' hg => sizes_nil (good_60 hg).1 (hae ▸ (good_cut ha (et ▸ hg)).1)
      have ea : a = Txt.join " " (([] : List Int).map fig) := hae
      have h6 : ok60 [] := fun _ h => by cases h
      refine ⟨_, rfl, c, rfl, (by omega), fun st h60 ec pst H3 s3 n3 e3 => ?_, fun hn => ?_⟩
      rotate_left
      · exact fun H9 s9 => e (fun ws' st' hg => hn st' (good_60 hg).2 (good_cut ha (et ▸ hg)).2) _ (sW.trans s9)
      have e4 := s3 _ _ eW
      refine ⟨_, rfl, _, rfl, p1, pst, [], st, rfl, SqL.of e4, SqL.of e3, fun H4 s4 => ?_⟩
      have s24 := sW.trans (s3.trans s4)
      refine ⟨_, rfl, ?_⟩
      by_cases hok : okS [] st
      rotate_left
      · rw [isB_not hok]
        refine e (fun ws' st' hg => hok ?_) _ s24
        have h1 := (good_cut ha (et ▸ hg)).2
        have h2 := nums_inj (good_60 hg).2 h60 (h1.symm.trans ec)
        rw [← hws ws' st' hg, ← h2]
        exact hg.2.2
      rw [isB_of hok]
      refine ⟨_, rfl, _, rfl, (by show 2 ≤ sizeLine; decide), fun pp np => ?_⟩
      have e5 := s4 _ _ e4
      have e6 := s4 _ _ e3
      have nn : H pst = none := sW.free n3
      refine q [] st ⟨?_, fun x hx => ⟨okS_one hok x hx, (h6 x hx).2⟩, hok⟩ pp p1 pst _ (s24.put (s24.free np)) (s24.free np) nW nn (ne_of_none eW n3) upd_same ?_ ?_
      · rw [txt_eq, ← ea, ← ec]
        exact et
      · rw [upd_ne (ne_of_none e5 np)]
        exact e5
      · rw [upd_ne (ne_of_none e6 np)]
        exact e6
    rw [decide_eq_false (show ¬ V.str a = V.str "" from fun h => hae (V.str.inj h))]
    refine ⟨_, rfl, " ", a, rfl, rfl, le_line (by omega), _, rfl, (by rw [app_len]; omega), fun ws h6 ew pw Hw sw nw eW => ?_, fun hn H9 s9 => ?_⟩
    rotate_left
    · exact e (fun ws' st' hg => hn ws' (good_60 hg).1 (sizes_to hae (good_cut ha (et ▸ hg)).1)) _ (sW.trans s9)
    have ea := sizes_of ew
    have hws : ∀ ws' st', Good t ws' st' → ws' = ws := fun ws' st' hg => nums_inj (good_60 hg).1 h6 ((sizes_to hae (good_cut ha (et ▸ hg)).1).symm.trans ew)
    have nW : H pw = none := sW.free nw
    replace sW := sW.trans sw
    refine ⟨_, rfl, c, rfl, (by omega), fun st h60 ec pst H3 s3 n3 e3 => ?_, fun hn => ?_⟩
    rotate_left
    · exact fun H9 s9 => e (fun ws' st' hg => hn st' (good_60 hg).2 (good_cut ha (et ▸ hg)).2) _ (sW.trans s9)
    have e4 := s3 _ _ eW
    refine ⟨_, rfl, _, rfl, pw, pst, ws, st, rfl, SqL.of e4, SqL.of e3, fun H4 s4 => ?_⟩
    have s24 := sW.trans (s3.trans s4)
    refine ⟨_, rfl, ?_⟩
    by_cases hok : okS ws st
    rotate_left
    · rw [isB_not hok]
      refine e (fun ws' st' hg => hok ?_) _ s24
      have h1 := (good_cut ha (et ▸ hg)).2
      have h2 := nums_inj (good_60 hg).2 h60 (h1.symm.trans ec)
      rw [← hws ws' st' hg, ← h2]
      exact hg.2.2
    rw [isB_of hok]
    refine ⟨_, rfl, _, rfl, (by show 2 ≤ sizeLine; decide), fun pp np => ?_⟩
    have e5 := s4 _ _ e4
    have e6 := s4 _ _ e3
    have nn : H pst = none := sW.free n3
    refine q ws st ⟨?_, fun x hx => ⟨okS_one hok x hx, (h6 x hx).2⟩, hok⟩ pp pw pst _ (s24.put (s24.free np)) (s24.free np) nW nn (ne_of_none eW n3) upd_same ?_ ?_
    · rw [txt_eq, ← ea, ← ec]
      exact et
    · rw [upd_ne (ne_of_none e5 np)]
      exact e5
    · rw [upd_ne (ne_of_none e6 np)]
      exact e6
end
end Ww
/-! law 5: how the law itself reads a text -/
namespace Ww
open PySem PySem.Spec PyProof.Rows L2 TL
theorem minK (K : PySem.W.Frag) {X : Cx} (hc : X.calm = true) (h : X.K = K := by rfl) : CallR X (.builtin "min") (rMin K) := by subst h; exact cr_min hc
theorem cut_from1 (x : V) (xs : List V) : cutV (x :: xs) (some 1) none = xs := by
  have e1 : HT.sIx (x :: xs).length 0 (some 1) = 1 := by
    unfold HT.sIx
    simp
  have e2 : HT.sIx (x :: xs).length (x :: xs).length none = xs.length + 1 := by
    unfold HT.sIx
    simp
  unfold cutV
  rw [e1, e2]
  simp
section
variable {P : Program} {w : World} {K : PySem.W.Frag} {mg : Str → Option Value} {base : Heap}
def sp_lnumber : Sp := fun vs H Q _ => ∃ t : Str, vs = [.str t] ∧ t.length ≤ 100000 ∧ (∀ n, Num t n → Q (.int n) H) ∧ ((∀ n, ¬ Num t n) → Q .non H)
theorem ok_lnumber (D : Df K mg "_law_number" s_law_number ["_law_text"]) (B : Bi mg) : Ok P w K mg base "_law_number" ["_law_text"] 1 sp_lnumber := by
  refine D.ok sc_law_number (fun vs H Q E h => ?_) (fun f cdv A outer s H vs Q E hr h => ?_)
  · obtain ⟨t, rfl, _⟩ := h
    rfl
  · obtain ⟨t, rfl, hl, q, e⟩ := h
    refine ⟨_, (pss_cons (ps_if (PW.pt (pw_or (pt_cmpR op_eq (pv 0) pe_str (nomark _)) (pw_or (pt_cmpR op_gt (pe_callB call_len_str (by rfl) B.len PySem.boot_len (pa_cons (pv 0) pa_nil)) pe_int (nomark _)) (pw_or (pt_cmpR op_ne (pe_bm PySem.F.plainAttrs_str PySem.F.slot_str_strip PySem.F.type_str_strip mt_stripChars (pv 0) (pa_cons pe_str pa_nil)) pe_str (nomark _)) (pw_or1 (PW.pt (pw_and (pt_cmpR op_eq (pe_ix ix_str (pv 0) pe_int (fun _ _ => rfl)) pe_str (nomark _)) (pw_and1 (pt_cmpR op_ne (pv 0) pe_str (nomark _))))))))))
        (pss_one (ps_ret pe_non))
        pss_nil)
      (pss_one (ps_ret (pe_callTy call_int_str (by rfl) B.int boot_int (pa_cons (pv 0) pa_nil))))), ?_⟩
    refine ⟨_, rfl, rfl, _, rfl, ite2 (fun c => ?_) (fun c => ?_)⟩
    · have ht : t = "" := V.str.inj (of_decide_eq_true c)
      exact e fun n hn => num_ne hn (by rw [ht, tl_no])
    have hne : tl t ≠ [] := fun h => c (decide_eq_true (congrArg V.str (show t = "" from ext_tl (by rw [h, tl_no]))))
    refine ⟨_, rfl, t, rfl, le_line hl, _, _, rfl, rfl, _, rfl, ite2 (fun c2 => ?_) (fun c2 => ?_)⟩
    · exact e fun n hn => by
        have := of_decide_eq_true c2
        have := num_len hn
        omega
    have h60 : t.length ≤ 60 := by
      have : ¬ (60 : Int) < t.length := fun h => c2 (decide_eq_true h)
      omega
    refine ⟨_, rfl, rfl, t, "0123456789", rfl, rfl, le_line hl, rfl, _, rfl, ?_⟩
    by_cases hd : PySem.NumText.AllDigits (tl t)
    rotate_left
    · rw [decide_eq_false (show ¬ V.str (Txt.stripChars t "0123456789") = V.str "" from fun h => strip_not hd (V.str.inj h))]
      exact e fun n hn => hd (num_digits hn)
    rw [decide_eq_true (show V.str (Txt.stripChars t "0123456789") = V.str "" from congrArg V.str (strip_all hd))]
    obtain ⟨c0, r, ec⟩ := List.exists_cons_of_ne_nil hne
    have hat : atI t.cps.toList 0 = some c0 := by
      rw [show t.cps.toList = c0 :: r from ec]
      unfold atI ixN
      simp
    have fin : ((tl t).head? = some 48 → tl t = [48]) → Q (.int ((PySem.NumText.digitsVal (tl t) : Nat) : Int)) H := fun h => q _ (num_of hd hne h60 h)
    have hint := PySem.intText_digits hd hne (Nat.le_trans h60 (by decide))
    refine iteF ⟨_, rfl, t, 0, c0, rfl, rfl, le_line hl, hat, rfl, _, rfl, ?_⟩
    have zt : tl ("0" : Str) = [48] := tl_ofString "0"
    by_cases h0 : c0 = 48
    rotate_left
    · rw [decide_eq_false (show ¬ V.str ⟨#[c0]⟩ = V.str "0" from fun h => h0 (by
        have := congrArg tl (V.str.inj h)
        rw [zt] at this
        exact (List.cons.inj this).1))]
      exact iteF (iteF ⟨_, rfl, t, _, rfl, hint, Nat.le_trans h60 (by decide), fin fun h => absurd (by rw [ec] at h; exact Option.some.inj h) h0⟩)
    rw [decide_eq_true (show V.str ⟨#[c0]⟩ = V.str "0" from congrArg V.str (ext_tl (by rw [zt, h0])))]
    refine iteT ⟨_, rfl, rfl, _, rfl, ?_⟩
    by_cases hz : tl t = [48]
    · rw [decide_eq_true (show V.str t = V.str "0" from congrArg V.str (ext_tl (by rw [zt, hz])))]
      exact iteF ⟨_, rfl, t, _, rfl, hint, Nat.le_trans h60 (by decide), fin fun _ => hz⟩
    · rw [decide_eq_false (show ¬ V.str t = V.str "0" from fun h => hz (by rw [V.str.inj h, zt]))]
      exact iteT (e fun n hn => hz (num_head hn (by rw [ec, h0]; rfl)))
/-- what the law reads of words: numbers, None where a word is none -/
def Rd : List V → List Str → Prop
  | [], [] => True
  | x :: xs, w :: ws => ((∃ n, Num w n ∧ x = .int n) ∨ ((∀ n, ¬ Num w n) ∧ x = .non)) ∧ Rd xs ws
  | _, _ => False
theorem rd_snoc : ∀ {xs : List V} {ws : List Str} {x : V} {w : Str}, Rd xs ws → ((∃ n, Num w n ∧ x = .int n) ∨ ((∀ n, ¬ Num w n) ∧ x = .non)) → Rd (xs ++ [x]) (ws ++ [w])
  | [], [], _, _, _, h => ⟨h, trivial⟩
  | _ :: _, _ :: _, _, _, h, h2 => ⟨h.1, rd_snoc h.2 h2⟩
  | [], _ :: _, _, _, h, _ => h.elim
  | _ :: _, [], _, _, h, _ => h.elim
theorem rd_len : ∀ {xs : List V} {ws : List Str}, Rd xs ws → xs.length = ws.length
  | [], [], _ => rfl
  | _ :: _, _ :: _, h => congrArg (· + 1) (rd_len h.2)
  | [], _ :: _, h => h.elim
  | _ :: _, [], h => h.elim
theorem rd_flat : ∀ {xs : List V} {ws : List Str}, Rd xs ws → xs.all flatV = true
  | [], [], _ => rfl
  | x :: _, _ :: _, h => by
    rw [List.all_cons, rd_flat h.2]
    rcases h.1 with ⟨n, _, rfl⟩ | ⟨_, rfl⟩ <;> rfl
  | [], _ :: _, h => h.elim
  | _ :: _, [], h => h.elim
theorem rd_some : ∀ {xs : List V} {ws : List Str}, Rd xs ws → inV .non xs = false → ∃ ns, ok60 ns ∧ xs = ns.map V.int ∧ ws = ns.map fig
  | [], [], _, _ => ⟨[], (fun _ h => by cases h), rfl, rfl⟩
  | x :: xs, w :: ws, h, hi => by
    have hi2 : (eqV x .non || inV .non xs) = false := hi
    rw [Bool.or_eq_false_iff] at hi2
    obtain ⟨ns, h1, h2, h3⟩ := rd_some h.2 hi2.2
    rcases h.1 with ⟨n, hn, rfl⟩ | ⟨_, rfl⟩
    · refine ⟨n :: ns, fun m hm => ?_, by rw [h2]; rfl, by rw [h3, hn.2.2]; rfl⟩
      rcases List.mem_cons.mp hm with rfl | hm
      · exact ⟨hn.1, hn.2.1⟩
      · exact h1 m hm
    · exact absurd hi2.1 (by decide)
  | [], _ :: _, h, _ => h.elim
  | _ :: _, [], h, _ => h.elim
theorem rd_none : ∀ {xs : List V} {ws : List Str}, Rd xs ws → inV .non xs = true → ∀ ns, ok60 ns → ws ≠ ns.map fig
  | [], [], _, hi => by cases hi
  | x :: xs, w :: ws, h, hi => by
    intro ns h6 e
    have hi2 : (eqV x .non || inV .non xs) = true := hi
    cases ns with
    | nil => cases e
    | cons n ns =>
      rw [List.map_cons] at e
      injection e with e1 e2
      have hn := h6 n List.mem_cons_self
      rcases h.1 with ⟨m, _, rfl⟩ | ⟨hno, rfl⟩
      · have hi3 : (false || inV .non xs) = true := hi2
        exact rd_none h.2 (by simpa using hi3) ns (fun z hz => h6 z (List.mem_cons_of_mem _ hz)) e2
      · exact hno n ⟨hn.1, hn.2, e1⟩
  | [], _ :: _, h, _ => h.elim
  | _ :: _, [], h, _ => h.elim
theorem good_split {t a c : Str} {ws st : List Int} (h : Good t ws st) (hc : t ≠ ":") (e : t = a ++ ":" ++ c) (ha : 58 ∉ tl a) : Txt.split a " " = ws.map fig ∧ Txt.split c " " = ("" : Str) :: st.map fig := by
  have h6 := good_60 h
  have h2 := good_cut ha (e ▸ h)
  refine ⟨?_, by rw [h2.2, split_nums h6.2]⟩
  cases ws with
  | nil =>
    have hs : st = [] := by
      have := okS_len h.2.2
      exact List.length_eq_zero_iff.mp this
    refine absurd ?_ hc
    rw [h.1, hs]
    decide +kernel
  | cons n ns =>
    rw [h2.1]
    refine split_join tl_blank all256 (by simp) fun p hp => ?_
    obtain ⟨m, hm, rfl⟩ := List.mem_map.mp hp
    exact fig_free (h6.1 m hm).1 (.inl (by decide))
theorem good_of {t a c : Str} {ws st : List Int} (e : t = a ++ ":" ++ c) (h1 : Txt.split a " " = ws.map fig) (h2 : Txt.split c " " = ("" : Str) :: st.map fig) (h6 : ok60 ws) (h : okS ws st) : Good t ws st := by
  refine ⟨?_, fun x hx => ⟨okS_one h x hx, (h6 x hx).2⟩, h⟩
  rw [txt_eq, ← h1, join_eq, StrLaws.join_split, ← nums_of h2 rfl]
  exact e
theorem good_nil : Good ":" [] [] := ⟨by decide +kernel, (fun _ h => by cases h), trivial⟩
/-- the law's reading of a text -/
def sp_lin (K : PySem.W.Frag) : Sp := fun vs H Q _ => ∃ t : Str, vs = [.str t] ∧ t.length ≤ 10000 ∧
    (∀ ws st : List Int, Good t ws st → ∀ (p a b : Addr) (H' : Hp), Same H H' → H p = none → H a = none → H b = none → H' p = some (.tup [.ref a, .ref b]) → H' a = some (.lst (ws.map V.int)) → H' b = some (.lst (st.map V.int)) → Q (.ref p) H') ∧
    ((∀ ws st, ¬ Good t ws st) → ∀ H', Same H H' → Q .non H')
theorem ok_lin (D : Df K mg "_law_in" s_law_in ["_law_text"]) (B : Bi mg) (G_law_number : Ok P w K mg base "_law_number" ["_law_text"] 1 sp_lnumber) (G_law_is_setting : Ok P w K mg base "_law_is_setting" ["_law_wheels_here", "_law_found"] 1 (sp_is_setting K)) : Ok P w K mg base "_law_in" ["_law_text"] 2 (sp_lin K) := by
  refine D.ok sc_law_in (fun vs H Q E h => ?_) (fun f cdv A outer s H vs Q E hr h => ?_)
  · obtain ⟨t, rfl, _⟩ := h
    rfl
  · obtain ⟨t, rfl, hl, q, e⟩ := h
    refine ⟨_, (pss_cons (ps_if (pt_cmpR op_eq (pv 0) pe_str (nomark _))
        (pss_one (ps_ret (pe_tup (pa_cons (pe_lst pa_nil) (pa_cons (pe_lst pa_nil) pa_nil)))))
        pss_nil)
      (pss_cons (ps_if (pt_cmpR op_ne (pe_bm PySem.F.plainAttrs_str PySem.F.slot_str_count PySem.F.type_str_count mt_count (pv 0) (pa_cons pe_str pa_nil)) pe_int (nomark _))
        (pss_one (ps_ret pe_non))
        pss_nil)
      (pss_cons (ps_asg (pe_split (pv 0) pe_str) (pg_lst rfl (pgs_cons (pg_name (i := 1) sc_law_in.nd rfl (.inl rfl)) (pgs_cons (pg_name (i := 2) sc_law_in.nd rfl (.inl rfl)) pgs_nil))))
      (pss_cons (ps_set (i := 3) sc_law_in.nd rfl (.inl rfl) (pe_split (pv 2) pe_str))
      (pss_cons (ps_setLc (i := 4) (own := [("_law_word", 6)]) (g := gName 6) (tt := tYes) rfl sc_law_in.nd rfl rfl (sw_true rfl rfl rfl (by decide +kernel)) (pi_list (pe_split (pv 1) pe_str)) (blkOk_by (own := [("_law_word", 6)]) (N := ["_law_text", "_law_first", "_law_second", "_law_words", "_law_sizes", "_law_numbers", "_law_word"]) (sc := defScope s_law_in) (by decide +kernel)) (fun _ _ _ _ _ => pg_name (i := 6) sc_law_in.nd rfl (.inl rfl)) (fun _ _ _ _ _ => pts_nil) (fun _ _ _ _ _ => (pe_ok G_law_number hr (by decide) (pa_cons (pv 6) pa_nil))))
      (pss_cons (ps_setLc (i := 5) (own := [("_law_word", 6)]) (g := gName 6) (tt := tYes) rfl sc_law_in.nd rfl rfl (sw_true rfl rfl rfl (by decide +kernel)) (pi_list (pe_slice (slL K) (pv 3) (po_some pe_int) po_none)) (blkOk_by (own := [("_law_word", 6)]) (N := ["_law_text", "_law_first", "_law_second", "_law_words", "_law_sizes", "_law_numbers", "_law_word"]) (sc := defScope s_law_in) (by decide +kernel)) (fun _ _ _ _ _ => pg_name (i := 6) sc_law_in.nd rfl (.inl rfl)) (fun _ _ _ _ _ => pts_nil) (fun _ _ _ _ _ => (pe_ok G_law_number hr (by decide) (pa_cons (pv 6) pa_nil))))
      (pss_cons (ps_if (PW.pt (pw_or (pt_cmpR op_ne (pe_ix (ixL K) (pv 3) pe_int (fun _ _ => rfl)) pe_str (nomark _)) (pw_or (pt_cmpR (inK K) pe_non (pv 4) (by with_unfolding_all rfl)) (pw_or (pt_cmpR (inK K) pe_non (pv 5) (by with_unfolding_all rfl)) (pw_or1 (pt_cmpR op_lt (pe_callB (minK K rfl) (by rfl) B.min (by decide +kernel) (pa_cons (pv 4) pa_nil)) pe_int (nomark _)))))))
        (pss_one (ps_ret pe_non))
        pss_nil)
      (pss_one (ps_ret (pe_ifExp (pt_val (pe_ok G_law_is_setting hr (by decide) (pa_cons (pv 4) (pa_cons (pv 5) pa_nil)))) (pe_tup (pa_cons (pv 4) (pa_cons (pv 5) pa_nil))) pe_non)))))))))), ?_⟩
    refine ⟨_, rfl, rfl, _, rfl, ite2 (fun c => ?_) (fun c => ?_)⟩
    · have ht : t = ":" := V.str.inj (of_decide_eq_true c)
      refine ⟨(by show 0 ≤ sizeLine; decide), fun p1 n1 => ⟨(by show 0 ≤ sizeLine; decide), fun p2 n2 => ⟨(by show 2 ≤ sizeLine; decide), fun p3 n3 => ?_⟩⟩⟩
      have a1 : Same H (upd H p1 (.lst [])) := same_upd n1
      have a2 := a1.put (o := .lst []) (a1.free n2)
      have m2 := a1.free n2
      have m3 := a2.free n3
      have e1 : upd (upd H p1 (.lst [])) p2 (.lst []) p1 = some (.lst (([] : List Int).map V.int)) := (upd_ne (ne_of_none upd_same n2)).trans upd_same
      have e2 : upd (upd H p1 (.lst [])) p2 (.lst []) p2 = some (.lst (([] : List Int).map V.int)) := upd_same
      refine q [] [] (ht ▸ good_nil) p3 p1 p2 _ (a2.put m3) m3 n1 m2 upd_same ?_ ?_
      · rw [upd_ne (ne_of_none e1 n3)]
        exact e1
      · rw [upd_ne (ne_of_none e2 n3)]
        exact e2
    have hnc : t ≠ ":" := fun h => c (decide_eq_true (congrArg V.str h))
    refine ⟨_, rfl, rfl, t, ":", rfl, rfl, rfl, _, rfl, ?_⟩
    rcases count_cases t with ⟨hc, hn⟩ | ⟨a, b, ha, hb, et, hn, es⟩ | ⟨a, b, ha, hb, et, hn⟩
    · rw [decide_eq_false (show ¬ V.int (Txt.count t ":") = V.int 1 from fun z => hn (V.int.inj z))]
      exact iteT (e (fun ws st h => hc (good_colon h)) H (Same.refl H))
    rotate_left
    · rw [decide_eq_false (show ¬ V.int (Txt.count t ":") = V.int 1 from fun z => hn (V.int.inj z))]
      exact iteT (e (fun ws st h => free_nums (good_60 h).2 ((good_cut ha (et ▸ h)).2 ▸ hb)) H (Same.refl H))
    rw [decide_eq_true (show V.int (Txt.count t ":") = V.int 1 from congrArg V.int hn)]
    refine iteF ⟨_, rfl, ⟨t, rfl⟩, t, ":", rfl, rfl, (by decide), le_line5 (by omega), fun p1 n1 => ?_⟩
    rw [es]
    refine ⟨p1, _, rfl, SqL.of upd_same, rfl, .str a, [.str b], rfl, .str b, [], rfl, rfl, ?_⟩
    have one : (":" : Str).length = 1 := rfl
    have hlen : a.length + 1 + b.length ≤ 10000 := by
      rw [et, app_len, app_len] at hl
      omega
    have la := PyProof.Rows.split_le a " "
    have lb := PyProof.Rows.split_le b " "
    refine ⟨_, rfl, ⟨b, rfl⟩, b, " ", rfl, rfl, (by decide), le_line5 (by omega), fun p2 n2 => ?_⟩
    generalize eH : upd (upd H p1 _) p2 (.lst ((Txt.split b " ").map V.str)) = H2
    have s2 : Same H H2 := eH ▸ (same_upd n1).trans (same_upd n2)
    have e2 : H2 p2 = some (.lst ((Txt.split b " ").map V.str)) := eH ▸ upd_same
    refine ⟨_, rfl, ⟨a, rfl⟩, a, " ", rfl, rfl, (by decide), le_line5 (by omega), fun p3 n3 => ⟨p3, rfl, ⟨_, SqL.of upd_same⟩, fun D1 nD1 => ?_⟩⟩
    generalize eH3 : upd H2 p3 (.lst ((Txt.split a " ").map V.str)) = H3 at nD1 ⊢
    have s3 : Same H2 H3 := eH3 ▸ same_upd n3
    have e3 : H3 p3 = some (.lst ((Txt.split a " ").map V.str)) := eH3 ▸ upd_same
    have lwa : ∀ z ∈ Txt.split a " ", z.length ≤ 100000 := fun z hz => by have := part_len hz; omega
    refine lc_list (K := K) (a := p3) (xs := (Txt.split a " ").map V.str) (fun i H4 => ∃ xs, Rd xs ((Txt.split a " ").take i) ∧ Same H3 H4 ∧ H4 D1 = some (.lst xs)) ⟨[], trivial, same_upd nD1, upd_same⟩ (fun i H4 _ h => h.choose_spec.2.1.seq (SqL.of e3)) ?_ ?_
    · rintro i x H4 hx ⟨xs, hr4, s4, eD⟩
      obtain ⟨z, hz, rfl⟩ := map_str_at hx
      have hlz := lwa z (List.mem_of_getElem? hz)
      have hnum : ∀ v, ((∃ n, Num z n ∧ v = .int n) ∨ ((∀ n, ¬ Num z n) ∧ v = .non)) → ∃ acc, H4 D1 = some (.lst acc) ∧ acc.length < sizeLine ∧ ∃ xs, Rd xs ((Txt.split a " ").take (i + 1)) ∧ Same H3 (upd H4 D1 (.lst (acc ++ [v]))) ∧ (upd H4 D1 (.lst (acc ++ [v]))) D1 = some (.lst xs) := fun v hv => by
        refine ⟨xs, eD, ?_, xs ++ [v], ?_, ?_, upd_same⟩
        · rw [rd_len hr4, List.length_take]
          have : (Txt.split a " ").length ≤ 20000 := by omega
          exact lt_line (by omega)
        · rw [take_more hz]
          exact rd_snoc hr4 hv
        · intro d u e
          rw [upd_ne (ne_of_none e nD1)]
          exact s4 _ _ e
      exact ⟨rfl, _, rfl, z, rfl, hlz, fun n hn => hnum _ (.inl ⟨n, hn, rfl⟩), fun hn => hnum _ (.inr ⟨hn, rfl⟩)⟩
    rintro H5 ⟨xs1, hr1, s5, eD1⟩
    rw [List.length_map, List.take_length] at hr1
    have e5 := s5 _ _ (s3 _ _ e2)
    obtain ⟨p0, ps, ep⟩ := split_ne b " " (by rw [tl_blank]; simp) all256
    rw [ep] at e5 lb
    rw [List.length_cons] at lb
    have lwb : ∀ z ∈ ps, z.length ≤ 100000 := fun z hz => by have := part_len (t := b) (y := " ") (by rw [ep]; exact List.mem_cons_of_mem _ hz); omega
    refine ⟨_, rfl, _, rfl, p2, _, rfl, SqL.of e5, fun p5 n5 => ⟨p5, rfl, ⟨_, SqL.of upd_same⟩, fun D2 nD2 => ?_⟩⟩
    rw [show cutV ((p0 :: ps).map V.str) (some 1) none = ps.map V.str from cut_from1 _ _] at nD2 ⊢
    generalize eH6 : upd H5 p5 (.lst (ps.map V.str)) = H6 at nD2 ⊢
    have s6 : Same H5 H6 := eH6 ▸ same_upd n5
    have e6 : H6 p5 = some (.lst (ps.map V.str)) := eH6 ▸ upd_same
    refine lc_list (K := K) (a := p5) (xs := (ps).map V.str) (fun i H4 => ∃ xs, Rd xs ((ps).take i) ∧ Same H6 H4 ∧ H4 D2 = some (.lst xs)) ⟨[], trivial, same_upd nD2, upd_same⟩ (fun i H4 _ h => h.choose_spec.2.1.seq (SqL.of e6)) ?_ ?_
    · rintro i x H4 hx ⟨xs, hr4, s4, eD⟩
      obtain ⟨z, hz, rfl⟩ := map_str_at hx
      have hlz := lwb z (List.mem_of_getElem? hz)
      have hnum : ∀ v, ((∃ n, Num z n ∧ v = .int n) ∨ ((∀ n, ¬ Num z n) ∧ v = .non)) → ∃ acc, H4 D2 = some (.lst acc) ∧ acc.length < sizeLine ∧ ∃ xs, Rd xs ((ps).take (i + 1)) ∧ Same H6 (upd H4 D2 (.lst (acc ++ [v]))) ∧ (upd H4 D2 (.lst (acc ++ [v]))) D2 = some (.lst xs) := fun v hv => by
        refine ⟨xs, eD, ?_, xs ++ [v], ?_, ?_, upd_same⟩
        · rw [rd_len hr4, List.length_take]
          have : (ps).length ≤ 20000 := by omega
          exact lt_line (by omega)
        · rw [take_more hz]
          exact rd_snoc hr4 hv
        · intro d u e
          rw [upd_ne (ne_of_none e nD2)]
          exact s4 _ _ e
      exact ⟨rfl, _, rfl, z, rfl, hlz, fun n hn => hnum _ (.inl ⟨n, hn, rfl⟩), fun hn => hnum _ (.inr ⟨hn, rfl⟩)⟩
    rintro H7 ⟨xs2, hr2, s7, eD2⟩
    rw [List.length_map, List.take_length] at hr2
    have sall : Same H H7 := s2.trans (s3.trans (s5.trans (s6.trans s7)))
    have e7 := s7 _ _ (s6 _ _ e5)
    have f1 := s7 _ _ (s6 _ _ eD1)
    have nD1' : H D1 = none := (s2.trans s3).free nD1
    have nD2' : H D2 = none := (s2.trans (s3.trans (s5.trans s6))).free nD2
    have hat : atI ((p0 :: ps).map V.str) 0 = some (V.str p0) := by
      unfold atI ixN
      simp
    have hsp : ∀ ws st, Good t ws st → Txt.split a " " = ws.map fig ∧ p0 = "" ∧ ps = st.map fig := fun ws st hg => by
      obtain ⟨g1, g2⟩ := good_split hg hnc et ha
      rw [ep] at g2
      exact ⟨g1, (List.cons.inj g2).1, (List.cons.inj g2).2⟩
    refine ⟨_, rfl, p2, _, 0, _, rfl, rfl, SqL.of e7, hat, rfl, _, rfl, ?_⟩
    by_cases hp0 : p0 = ""
    rotate_left
    · rw [decide_eq_false (show ¬ V.str p0 = V.str "" from fun h => hp0 (V.str.inj h))]
      exact iteT (e (fun ws st hg => hp0 (hsp ws st hg).2.1) _ sall)
    rw [decide_eq_true (show V.str p0 = V.str "" from congrArg V.str hp0)]
    refine iteF ⟨_, rfl, D1, xs1, rfl, .inl (SqL.of f1), rfl, rd_flat hr1, _, rfl, ite2 (fun c1 => ?_) (fun c1 => ?_)⟩
    · exact e (fun ws st hg => rd_none hr1 c1 ws (good_60 hg).1 (hsp ws st hg).1) _ sall
    refine ⟨_, rfl, D2, xs2, rfl, .inl (SqL.of eD2), rfl, rd_flat hr2, _, rfl, ite2 (fun c2 => ?_) (fun c2 => ?_)⟩
    · exact e (fun ws st hg => rd_none hr2 c2 st (good_60 hg).2 (hsp ws st hg).2.2) _ sall
    have c1' : inV .non xs1 = false := by
      cases hi : inV .non xs1 with
      | false => rfl
      | true => exact absurd hi c1
    have c2' : inV .non xs2 = false := by
      cases hi : inV .non xs2 with
      | false => rfl
      | true => exact absurd hi c2
    obtain ⟨ns1, h61, ex1, ew1⟩ := rd_some hr1 c1'
    obtain ⟨ns2, h62, ex2, ew2⟩ := rd_some hr2 c2'
    rw [ex1] at f1
    rw [ex2] at eD2
    have l1 := congrArg List.length ew1
    have l2 := congrArg List.length ew2
    rw [List.length_map] at l1 l2
    have hpos : 0 < ns1.length := by
      obtain ⟨q1, qs, eq⟩ := split_ne a " " (by rw [tl_blank]; simp) all256
      rw [eq, List.length_cons] at l1
      omega
    have huniq : ∀ ws st, Good t ws st → ws = ns1 ∧ st = ns2 := fun ws st hg => ⟨map_fig_inj (good_60 hg).1 h61 ((hsp ws st hg).1.symm.trans ew1), map_fig_inj (good_60 hg).2 h62 ((hsp ws st hg).2.2.symm.trans ew2)⟩
    refine ⟨_, rfl, D1, ns1, rfl, SqL.of f1, hpos, fun m hm hmin => ⟨_, _, rfl, rfl, _, rfl, ite2 (fun c3 => ?_) (fun c3 => ?_)⟩⟩
    · refine e (fun ws st hg => ?_) _ sall
      have c3' := of_decide_eq_true c3
      have := (hg.2.1 m ((huniq ws st hg).1 ▸ hm)).1
      omega
    refine ⟨_, rfl, _, rfl, D1, D2, ns1, ns2, rfl, SqL.of f1, SqL.of eD2, (by omega), (by omega), fun H8 s8 => ?_⟩
    refine ⟨_, rfl, ?_⟩
    by_cases hok : okS ns1 ns2
    rotate_left
    · rw [isB_not hok]
      exact iteF (e (fun ws st hg => hok ((huniq ws st hg).1 ▸ (huniq ws st hg).2 ▸ hg.2.2)) _ (sall.trans s8))
    rw [isB_of hok]
    refine iteT ⟨_, rfl, _, rfl, (by show 2 ≤ sizeLine; decide), fun pp np => ?_⟩
    have g1 := s8 _ _ f1
    have g2 := s8 _ _ eD2
    have s9 := sall.trans s8
    refine q ns1 ns2 (good_of et ew1 (by rw [ep, hp0, ew2]) h61 hok) pp D1 D2 _ (s9.put (s9.free np)) (s9.free np) nD1' nD2' upd_same ?_ ?_
    · rw [upd_ne (ne_of_none g1 np)]
      exact g1
    · rw [upd_ne (ne_of_none g2 np)]
      exact g2
end
end Ww
/-! law 5: whether a text is read and written back as it should be -/
namespace Ww
open PySem PySem.Spec PyProof.Rows L2 TL
theorem okC_weak {P : Program} {w : World} {K : PySem.W.Frag} {mg : Str → Option Value} {base : Heap} {CX : CXT} {x : Str} {ps : List Str} {k : Nat} {sp sp2 : Sp} (C : OkC P w K mg base CX x ps k sp) (h : ∀ vs H Q E, sp2 vs H Q E → sp vs H Q E) : OkC P w K mg base CX x ps k sp2 := by
  obtain ⟨f, fd, g, kp, b, F⟩ := C.ex
  exact ⟨f, fd, g, kp, b, ⟨fun vs H Q E hh => F.len vs H Q E (h _ _ _ _ hh), fun A outer s H args us vs Q E hr e0 hb r hsp => F.run A outer s H args us vs Q E hr e0 hb r (h _ _ _ _ hsp)⟩⟩
def pairD (ws st : List Int) : PyData := .tuple [.list (ws.map PyData.int), .list (st.map PyData.int)]
theorem dp_pair {K : PySem.W.Frag} {H : Hp} {p a b : Addr} {ws st : List Int} (h : H p = some (.tup [.ref a, .ref b])) (h1 : SqL K H a (ws.map V.int)) (h2 : SqL K H b (st.map V.int)) : Dp K H (.ref p) (pairD ws st) := .tup (SqT.of h) (.cons (dp_ints h1) (.cons (dp_ints h2) .nil))
theorem shaped_pair (ws st : List Int) : SeqAt.shaped (pairD ws st) = true := by
  have h1 := PySem.W.depthAll_ints ws
  have h2 := PySem.W.depthAll_ints st
  have hd : PyData.depth (pairD ws st) ≤ 64 := by simp only [pairD, PyData.depth, PyData.depthAll]; omega
  show (PyData.canLay0 (pairD ws st) && decide (PyData.depth (pairD ws st) ≤ 64)) = true
  rw [Bool.and_eq_true]
  refine ⟨?_, decide_eq_true hd⟩
  simp [pairD, PyData.canLay0, PyData.canLayAll0, PySem.W.canLayAll0_ints]
theorem eqv_pair (ws st : List Int) : PyData.eqv (pairD ws st) (pairD ws st) = true := SeqAt.eqv_refl _ (SeqAt.canLay_of_shaped (shaped_pair ws st))
theorem good_uniq {t : Str} {ws st ws' st' : List Int} (h : Good t ws st) (h' : Good t ws' st') : ws = ws' ∧ st = st' := by
  rcases part_cases t with ⟨hc, _⟩ | ⟨a, c, ha, et, _⟩
  · exact absurd (good_colon h) hc
  have g := good_cut ha (et ▸ h)
  have g' := good_cut ha (et ▸ h')
  refine ⟨?_, nums_inj (good_60 h).2 (good_60 h').2 (g.2.symm.trans g'.2)⟩
  by_cases hae : a = ""
  · rw [sizes_nil (good_60 h).1 (hae ▸ g.1), sizes_nil (good_60 h').1 (hae ▸ g'.1)]
  · exact nums_inj (good_60 h).1 (good_60 h').1 ((sizes_to hae g.1).symm.trans (sizes_to hae g'.1))
/-- what read refuses -/
def Bad5 (K : PySem.W.Frag) (H : Hp) (v : V) : Prop := (∃ t, v = .str t ∧ t.length ≤ 10000 ∧ ∀ ws st, ¬ Good t ws st) ∨ NoStr K H v
section
variable {P : Program} {w : World} {K : PySem.W.Frag} {mg : Str → Option Value} {base : Heap}
theorem bad_read {CT : Addr} (X : OkX P w K mg base "read" ["text"] 12 (sp_read K CT)) : OkX P w K mg base "read" ["text"] 12 (sp_bad_read (Bad5 K) CT) := okC_weak X fun vs H Q E h => by
  obtain ⟨v, rfl, h, e⟩ := h
  refine ⟨v, rfl, ?_⟩
  rcases h with ⟨t, rfl, hl, hb⟩ | h
  · exact .inl ⟨t, rfl, hl, fun ws st hg => absurd hg (hb ws st), fun _ => e⟩
  · exact .inr ⟨h, e⟩
def sp_right5 : Sp := fun vs H Q _ => ∃ t : Str, vs = [.str t] ∧ t.length ≤ 10000 ∧ ∀ H', Same H H' → Q (.bl true) H'
theorem ok_right5 {CT : Addr} (D : Df K mg "_law_right" s_law_right ["_law_text"]) (B : Bi mg) (G_law_in : Ok P w K mg base "_law_in" ["_law_text"] 2 (sp_lin K)) (G_law_refused : Ok P w K mg base "_law_refused" ["_law_text"] 13 (sp_refused5 (Bad5 K)))
    (X_read : OkX P w K mg base "read" ["text"] 12 (sp_read K CT)) (G_written : Ok P w K mg base "written" ["wheels", "setting"] 12 (sp_written K)) : Ok P w K mg base "_law_right" ["_law_text"] 14 sp_right5 := by
  refine D.ok sc_law_right (fun vs H Q E h => ?_) (fun f cdv A outer s H vs Q E hr h => ?_)
  · obtain ⟨t, rfl, _⟩ := h
    rfl
  · obtain ⟨t, rfl, hl, q⟩ := h
    refine ⟨_, (pss_cons (ps_set (i := 1) sc_law_right.nd rfl (.inl rfl) (pe_ok G_law_in hr (by decide) (pa_cons (pv 0) pa_nil)))
      (pss_cons (ps_if (pt_cmp (pc_isN (pv 1)))
        (pss_one (ps_ret (pe_ok G_law_refused hr (by decide) (pa_cons (pv 0) pa_nil))))
        pss_nil)
      (pss_cons (ps_set (i := 2) sc_law_right.nd rfl (.inl rfl) (pe_okX X_read hr (by decide) passZ (pa_cons (pv 0) pa_nil)))
      (pss_cons (ps_if (PW.pt (pw_or (pt_not (pt_val (pe_callB (isiK K) (by rfl) B.isinstance (by decide +kernel) (pa_cons (pv 2) (pa_cons (pe_bltn (v := .ty "tuple") (by rfl) B.tuple boot_tuple rfl) pa_nil))))) (pw_or (pt_cmpR (neDK K hr.units) (pv 2) (pv 1) (nomark _)) (pw_or1 (pt_cmpR op_ne (pe_ok G_written hr (by decide) (pa_cons (pe_ix (ixT K) (pv 2) pe_int (fun _ _ => rfl)) (pa_cons (pe_ix (ixT K) (pv 2) pe_int (fun _ _ => rfl)) pa_nil))) (pv 0) (nomark _))))))
        (pss_one (ps_ret pe_bl))
        pss_nil)
      (pss_cons (ps_expr (pe_bm PySem.F.plainAttrs_list PySem.F.slot_list_append PySem.F.type_list_append mt_append (pe_ix (ixT K) (pv 2) pe_int (fun _ _ => rfl)) (pa_cons pe_int pa_nil)))
      (pss_cons (ps_expr (pe_bm0 PySem.F.plainAttrs_list PySem.F.slot_list_clear PySem.F.type_list_clear mt_clear (pe_ix (ixT K) (pv 2) pe_int (fun _ _ => rfl))))
      (pss_one (ps_ret (pe_cmpR (eqDK K hr.units) (pe_okX X_read hr (by decide) passZ (pa_cons (pv 0) pa_nil)) (pv 1) (nomark _)))))))))), ?_⟩
    refine ⟨_, rfl, t, rfl, hl, fun ws st hg p a b H1 s1 np na nb ep ea eb => ?_, fun hb H1 s1 => ?_⟩
    rotate_left
    · refine ⟨_, rfl, _, rfl, ?_⟩
      exact ⟨_, rfl, _, rfl, .inl ⟨t, rfl, hl, hb⟩, fun H2 s2 => q _ (s1.trans s2)⟩
    refine ⟨_, rfl, _, rfl, ?_⟩
    rw [decide_eq_false (show ¬ V.ref p = V.non from fun h => by cases h)]
    have hbad : (∀ ws st, ¬ Good t ws st) → ∀ H' : Hp, False := fun hb _ => hb ws st hg
    refine iteF ⟨_, rfl, _, rfl, .inl ⟨t, rfl, hl, fun ws2 st2 hg2 p2 a2 b2 H2 s2 np2 na2 nb2 hab ep2 ea2 eb2 => ?_, fun hb => absurd hg (hb ws st)⟩⟩
    obtain ⟨rfl, rfl⟩ := good_uniq hg hg2
    have at0 : atI [V.ref a2, V.ref b2] 0 = some (V.ref a2) := by
      unfold atI ixN
      simp
    have at1 : atI [V.ref a2, V.ref b2] 1 = some (V.ref b2) := by
      unfold atI ixN
      simp
    have hwl := good_len hg
    refine ⟨_, rfl, _, _, _, _, true, rfl, .ty "tuple", .base (.tup ep2), kit_ty (by decide +kernel), _, rfl, iteF ?_⟩
    refine ⟨_, rfl, _, rfl, pairD ws st, pairD ws st, dp_pair ep2 (SqL.of ea2) (SqL.of eb2), dp_pair (s2 _ _ ep) (SqL.of (s2 _ _ ea)) (SqL.of (s2 _ _ eb)), shaped_pair _ _, shaped_pair _ _, _, rfl, ?_⟩
    rw [eqv_pair]
    refine iteF ⟨_, rfl, p2, _, 0, _, rfl, rfl, SqT.of ep2, at0, _, rfl, p2, _, 1, _, rfl, rfl, SqT.of ep2, at1, a2, b2, ws, st, rfl, SqL.of ea2, SqL.of eb2, fun x hx => (hg.2.1 x hx).1, fun x hx => (hg.2.1 x hx).2, (by omega), hg.2.2, fun H3 s3 => ?_⟩
    refine ⟨_, rfl, rfl, _, rfl, ?_⟩
    rw [decide_eq_true (show V.str (txtOf ws st) = V.str t from congrArg V.str hg.1.symm)]
    refine iteF ?_
    have ep3 := s3 _ _ ep2
    have ea3 := s3 _ _ ea2
    have eb3 := s3 _ _ eb2
    have hpa : p2 ≠ a2 := fun h => by
      rw [h, ea3] at ep3
      cases ep3
    have hpb : p2 ≠ b2 := fun h => by
      rw [h, eb3] at ep3
      cases ep3
    have hst := okS_len hg.2.2
    refine ⟨_, rfl, p2, _, 0, _, rfl, rfl, SqT.of ep3, at0, .inl ⟨rfl, _, SqL.of ea3⟩, a2, _, _, rfl, rfl, ea3, (by rw [List.length_map]; exact lt_line (by omega)), ?_⟩
    have s4 : Same H1 (upd H3 a2 (.lst (ws.map V.int ++ [.int 1]))) := (s2.trans s3).put na2
    have ep4 : upd H3 a2 (.lst (ws.map V.int ++ [.int 1])) p2 = some (.tup [.ref a2, .ref b2]) := (upd_ne hpa).trans ep3
    have eb4 : upd H3 a2 (.lst (ws.map V.int ++ [.int 1])) b2 = some (.lst (st.map V.int)) := (upd_ne (Ne.symm hab)).trans eb3
    generalize upd H3 a2 (.lst (ws.map V.int ++ [.int 1])) = H4 at s4 ep4 eb4 ⊢
    refine ⟨_, rfl, p2, _, 1, _, rfl, rfl, SqT.of ep4, at1, .inl ⟨rfl, _, SqL.of eb4⟩, b2, _, rfl, rfl, eb4, ?_⟩
    have s5 : Same H1 (upd H4 b2 (.lst [])) := s4.put nb2
    generalize upd H4 b2 (.lst []) = H5 at s5 ⊢
    refine ⟨_, rfl, .str t, rfl, .inl ⟨t, rfl, hl, fun ws3 st3 hg3 p3 a3 b3 H6 s6 _ _ _ _ ep6 ea6 eb6 => ?_, fun hb => absurd hg (hb ws st)⟩⟩
    obtain ⟨rfl, rfl⟩ := good_uniq hg hg3
    have s16 := s5.trans s6
    refine ⟨_, rfl, pairD ws st, pairD ws st, dp_pair ep6 (SqL.of ea6) (SqL.of eb6), dp_pair (s16 _ _ ep) (SqL.of (s16 _ _ ea)) (SqL.of (s16 _ _ eb)), shaped_pair _ _, shaped_pair _ _, ?_⟩
    rw [eqv_pair]
    exact q _ (s1.trans s16)
end
end Ww
/-! law 5: its few texts -/
namespace Ww
open PySem PySem.Spec PyProof.Rows L2 TL
theorem pe_ok0 {X : Cx} {x : Str} {k j : Nat} {sp : Sp} {p pos : Pos} (C : Ok X.prog X.w X.K X.mg X.base x [] k sp) (hr : Room j X.A) (hk : k ≤ j) (hg : Gl X x := by rfl)
    (hdb : (x == ("__debug__" : Str)) = false := by decide) : PE X (.Call (.Name x p) [] [] pos) (tCall sp [] E0 tNil) := by
  obtain ⟨f, fd, g, kp, b, F⟩ := C.ex
  exact pe_call0 F (hr.mono hk) hg g kp b .nil pass0 hdb
theorem repS_len {z : Str} (h : z.length = 1) (n : Nat) : (repS z n).length = n := by
  have e : z.cps.size = 1 := h
  show ((List.replicate n z.cps).foldl (· ++ ·) #[]).size = n
  rw [rep_size, e]
  simp
theorem sz5 {n : Nat} (h : n ≤ 5000) : n ≤ sizeLine := Nat.le_trans h (by decide)
def few0 : List Str := [("" : Str), (":" : Str), (" :" : Str), (": " : Str), ("::" : Str), ("1: 0" : Str), ("2: 1" : Str), ("2: 2" : Str), ("0: 0" : Str), ("2 3: 1 2" : Str), ("2 3: 1" : Str), ("2: 1 0" : Str), ("2 3:1 2" : Str), ("2:" : Str)]
def few1 : List Str := [("2: " : Str), (": 0" : Str), ("2 3 : 1 2" : Str), (" 2: 1" : Str), ("2: 1 " : Str), ("2  3: 1 2" : Str), ("2 3: 1  2" : Str), ("02: 1" : Str), ("2: 01" : Str), ("2: 00" : Str)]
def few2 : List Str := [("-2: 1" : Str), ("2: -1" : Str), ("2: -0" : Str), ("2,3: 1,2" : Str), ("2: 1: 0" : Str), ("x: 0" : Str), ("2: x" : Str), ("2: 1\n" : Str), ("2\t3: 1 2" : Str), ("2 3: 1\t2" : Str)]
def few3 : List Str := [("1_0: 5" : Str), ("10: +5" : Str), ((("1" : Str) ++ (repS "0" 59)) ++ (": 7" : Str)), ((("1" : Str) ++ (repS "0" 60)) ++ (": 7" : Str)), ((repS "9" 4000) ++ (": 1" : Str))]
def few4 : List Str := [("2 3" : Str), ("2 1" : Str), (("5: " : Str) ++ (repS "4" 4000)), ("2:x 1" : Str), ("2:0 1" : Str), ("2 3:: 1 2" : Str)]
def fewL : List Str := few0 ++ few1 ++ few2 ++ few3 ++ few4
def sp_few : Sp := fun vs H Q _ => vs = [] ∧ ∀ (p : Addr) (H' : Hp), Same H H' → H p = none → H' p = some (.lst (fewL.map V.str)) → Q (.ref p) H'
theorem few_len : ∀ t ∈ fewL, t.length ≤ 10000 := by
  have h0 : ∀ t ∈ few0, t.length ≤ 10000 := by decide
  have h1 : ∀ t ∈ few1, t.length ≤ 10000 := by decide
  have h2 : ∀ t ∈ few2, t.length ≤ 10000 := by decide
  have l1 : ("1" : Str).length = 1 := rfl
  have l2 : (": 7" : Str).length = 3 := rfl
  have l3 : (": 1" : Str).length = 3 := rfl
  have l4 : ("5: " : Str).length = 3 := rfl
  have h3 : ∀ t ∈ few3, t.length ≤ 10000 := List.forall_mem_cons.mpr ⟨by decide, List.forall_mem_cons.mpr ⟨by decide, List.forall_mem_cons.mpr ⟨by rw [app_len, app_len, repS_len rfl, l1, l2]; omega, List.forall_mem_cons.mpr ⟨by rw [app_len, app_len, repS_len rfl, l1, l2]; omega, List.forall_mem_cons.mpr ⟨by rw [app_len, repS_len rfl, l3]; omega, fun _ h => by cases h⟩⟩⟩⟩⟩
  have h4 : ∀ t ∈ few4, t.length ≤ 10000 := List.forall_mem_cons.mpr ⟨by decide, List.forall_mem_cons.mpr ⟨by decide, List.forall_mem_cons.mpr ⟨by rw [app_len, repS_len rfl, l4]; omega, List.forall_mem_cons.mpr ⟨by decide, List.forall_mem_cons.mpr ⟨by decide, List.forall_mem_cons.mpr ⟨by decide, fun _ h => by cases h⟩⟩⟩⟩⟩⟩
  intro t ht
  rcases List.mem_append.mp ht with ht | ht
  · rcases List.mem_append.mp ht with ht | ht
    · rcases List.mem_append.mp ht with ht | ht
      · rcases List.mem_append.mp ht with ht | ht
        · exact h0 t ht
        · exact h1 t ht
      · exact h2 t ht
    · exact h3 t ht
  · exact h4 t ht
section
variable {P : Program} {w : World} {K : PySem.W.Frag} {mg : Str → Option Value} {base : Heap}
theorem ok_few (D : Df K mg "_law_few" s_law_few []) (B : Bi mg) : Ok P w K mg base "_law_few" [] 1 sp_few := by
  refine D.ok sc_law_few (fun vs H Q E h => ?_) (fun f cdv A outer s H vs Q E hr h => ?_)
  · obtain ⟨rfl, _⟩ := h
    rfl
  · obtain ⟨rfl, q⟩ := h
    refine ⟨_, (pss_cons (ps_set (i := 0) sc_law_few.nd rfl (.inl rfl) (pe_lst (pa_cons pe_str (pa_cons pe_str (pa_cons pe_str (pa_cons pe_str (pa_cons pe_str (pa_cons pe_str (pa_cons pe_str (pa_cons pe_str (pa_cons pe_str (pa_cons pe_str (pa_cons pe_str (pa_cons pe_str (pa_cons pe_str (pa_cons pe_str pa_nil))))))))))))))))
      (pss_cons (ps_set (i := 0) sc_law_few.nd rfl (.inl rfl) (pe_op op_cat (pv 0) (pe_lst (pa_cons pe_str (pa_cons pe_str (pa_cons pe_str (pa_cons pe_str (pa_cons pe_str (pa_cons pe_str (pa_cons pe_str (pa_cons pe_str (pa_cons pe_str (pa_cons pe_str pa_nil)))))))))))))
      (pss_cons (ps_set (i := 0) sc_law_few.nd rfl (.inl rfl) (pe_op op_cat (pv 0) (pe_lst (pa_cons pe_str (pa_cons pe_str (pa_cons pe_str (pa_cons pe_str (pa_cons pe_str (pa_cons pe_str (pa_cons pe_str (pa_cons pe_str (pa_cons pe_str (pa_cons pe_str pa_nil)))))))))))))
      (pss_cons (ps_set (i := 0) sc_law_few.nd rfl (.inl rfl) (pe_op op_cat (pv 0) (pe_lst (pa_cons pe_str (pa_cons pe_str (pa_cons (pe_op op_add_str (pe_op op_add_str pe_str (pe_op op_repS pe_str pe_int)) pe_str) (pa_cons (pe_op op_add_str (pe_op op_add_str pe_str (pe_op op_repS pe_str pe_int)) pe_str) (pa_cons (pe_op op_add_str (pe_op op_repS pe_str pe_int) pe_str) pa_nil))))))))
      (pss_one (ps_ret (pe_op op_cat (pv 0) (pe_lst (pa_cons pe_str (pa_cons pe_str (pa_cons (pe_op op_add_str pe_str (pe_op op_repS pe_str pe_int)) (pa_cons pe_str (pa_cons pe_str (pa_cons pe_str pa_nil)))))))))))))), ?_⟩
    refine ⟨(by show 14 ≤ sizeLine; decide), fun p0 n0 => ?_⟩
    generalize eH : upd H p0 _ = H0
    have s0 : Same H H0 := eH ▸ same_upd n0
    have e0 : H0 p0 = some (.lst (few0.map V.str)) := eH ▸ upd_same
    clear eH
    refine ⟨_, rfl, (by show 10 ≤ sizeLine; decide), fun q1 m1 => ?_⟩
    generalize eH : upd _ q1 _ = G1
    have t1 : Same H0 G1 := eH ▸ same_upd m1
    have u1 : G1 q1 = some (.lst (few1.map V.str)) := eH ▸ upd_same
    clear eH
    refine ⟨p0, q1, (few0).map V.str, few1.map V.str, rfl, rfl, t1 _ _ e0, u1, le_line (by decide), fun p1 n1 => ?_⟩
    rw [← List.map_append]
    generalize eH : upd _ p1 _ = H1
    have s1 : Same H H1 := eH ▸ (s0.trans t1).trans (same_upd n1)
    have e1 : H1 p1 = some (.lst ((few0 ++ few1).map V.str)) := eH ▸ upd_same
    clear eH
    refine ⟨_, rfl, (by show 10 ≤ sizeLine; decide), fun q2 m2 => ?_⟩
    generalize eH : upd _ q2 _ = G2
    have t2 : Same H1 G2 := eH ▸ same_upd m2
    have u2 : G2 q2 = some (.lst (few2.map V.str)) := eH ▸ upd_same
    clear eH
    refine ⟨p1, q2, (few0 ++ few1).map V.str, few2.map V.str, rfl, rfl, t2 _ _ e1, u2, le_line (by decide), fun p2 n2 => ?_⟩
    rw [← List.map_append]
    generalize eH : upd _ p2 _ = H2
    have s2 : Same H H2 := eH ▸ (s1.trans t2).trans (same_upd n2)
    have e2 : H2 p2 = some (.lst ((few0 ++ few1 ++ few2).map V.str)) := eH ▸ upd_same
    clear eH
    refine ⟨_, rfl, "0", 59, rfl, rfl, (by decide), (by decide), rfl, _, _, rfl, rfl, (sz5 (by rw [repS_len rfl]; exact Nat.le_of_ble_eq_true rfl)), _, _, rfl, rfl, (sz5 (by rw [app_len, repS_len rfl]; exact Nat.le_of_ble_eq_true rfl)), "0", 60, rfl, rfl, (by decide), (by decide), rfl, _, _, rfl, rfl, (sz5 (by rw [repS_len rfl]; exact Nat.le_of_ble_eq_true rfl)), _, _, rfl, rfl, (sz5 (by rw [app_len, repS_len rfl]; exact Nat.le_of_ble_eq_true rfl)), "9", 4000, rfl, rfl, (by decide), (by decide), rfl, _, _, rfl, rfl, (sz5 (by rw [repS_len rfl]; exact Nat.le_of_ble_eq_true rfl)), (by show 5 ≤ sizeLine; decide), fun q3 m3 => ?_⟩
    generalize eH : upd _ q3 _ = G3
    have t3 : Same H2 G3 := eH ▸ same_upd m3
    have u3 : G3 q3 = some (.lst (few3.map V.str)) := eH ▸ upd_same
    clear eH
    refine ⟨p2, q3, (few0 ++ few1 ++ few2).map V.str, few3.map V.str, rfl, rfl, t3 _ _ e2, u3, le_line (by decide), fun p3 n3 => ?_⟩
    rw [← List.map_append]
    generalize eH : upd _ p3 _ = H3
    have s3 : Same H H3 := eH ▸ (s2.trans t3).trans (same_upd n3)
    have e3 : H3 p3 = some (.lst ((few0 ++ few1 ++ few2 ++ few3).map V.str)) := eH ▸ upd_same
    clear eH
    refine ⟨_, rfl, "4", 4000, rfl, rfl, (by decide), (by decide), rfl, _, _, rfl, rfl, (sz5 (by rw [repS_len rfl]; exact Nat.le_of_ble_eq_true rfl)), (by show 6 ≤ sizeLine; decide), fun q4 m4 => ?_⟩
    generalize eH : upd _ q4 _ = G4
    have t4 : Same H3 G4 := eH ▸ same_upd m4
    have u4 : G4 q4 = some (.lst (few4.map V.str)) := eH ▸ upd_same
    clear eH
    refine ⟨p3, q4, (few0 ++ few1 ++ few2 ++ few3).map V.str, few4.map V.str, rfl, rfl, t4 _ _ e3, u4, le_line (by decide), fun p4 n4 => ?_⟩
    rw [← List.map_append]
    exact q p4 _ ((s3.trans t4).trans (same_upd n4)) ((s3.trans t4).free n4) upd_same
end
end Ww
/-! law 5 -/
namespace Ww
open PySem PySem.Spec PyProof.Rows L2 TL
/-- the text as the law makes it -/
def txtL (ws st : List Int) : Str := Txt.join " " (ws.map fig) ++ ":" ++ Txt.join "" (st.map fun p => " " ++ fig p)
theorem txtL_eq (ws st : List Int) : txtL ws st = txtOf ws st := by
  rw [txt_eq]
  unfold txtL numsT
  congr 2
theorem blank_len5 {p : Int} (h0 : 0 ≤ p) (h : p < 10 ^ 60) : ((" " : Str) ++ fig p).length ≤ 61 := by
  rw [app_len]
  have := fig_len h0 h
  have e2 : (" " : Str).length = 1 := rfl
  omega
theorem nums_lens5 {st : List Int} (h : ∀ x ∈ st, 0 ≤ x ∧ x < 10 ^ 60) : (((st.map fun p => (" " : Str) ++ fig p).map (·.length)).sum) ≤ st.length * 61 := by
  have := sum_le (k := 61) (l := (st.map fun p => (" " : Str) ++ fig p).map (·.length)) fun x hx => by
    obtain ⟨y, hy, rfl⟩ := List.mem_map.mp hx
    obtain ⟨z, hz, rfl⟩ := List.mem_map.mp hy
    exact blank_len5 (h z hz).1 (h z hz).2
  rw [List.length_map, List.length_map] at this
  exact this
theorem str_len (l : List Nat) : (⟨l.toArray⟩ : Str).length = l.length := by rw [len_tl, tl_mk]
theorem cutS_len (z : Str) (lo hi : Option Int) : (cutS z lo hi).length = min (HT.sIx z.length z.length hi - HT.sIx z.length 0 lo) (z.length - HT.sIx z.length 0 lo) := by
  have e : (cutS z lo hi).length = ((z.cps.toList.drop (HT.sIx z.length 0 lo)).take (HT.sIx z.length z.length hi - HT.sIx z.length 0 lo)).length := str_len _
  rw [e, List.length_take, List.length_drop]
  rfl
/-- a text without what stands between two of its places -/
theorem cut_two (z : Str) {k d : Int} (h0 : 0 ≤ k) (hd : 0 ≤ d) : (cutS z none (some k)).length + (cutS z (some (k + d)) none).length ≤ z.length := by
  obtain ⟨i, rfl⟩ : ∃ i : Nat, k = (i : Int) := ⟨k.toNat, by omega⟩
  obtain ⟨j, rfl⟩ : ∃ j : Nat, d = (j : Int) := ⟨d.toNat, by omega⟩
  have e : ((i : Int) + (j : Int)) = ((i + j : Nat) : Int) := rfl
  rw [e, cutS_len, cutS_len, HT.sIx_none, HT.sIx_none, HT.sIx_nat, HT.sIx_nat]
  omega
def signs5 : Str := "0123456789: -x\n"
theorem sign_at {z : Int} (h0 : 0 ≤ z) (h1 : z < 15) : ∃ c, atI signs5.cps.toList z = some c := by
  obtain ⟨i, rfl⟩ : ∃ i : Nat, z = (i : Int) := ⟨z.toNat, by omega⟩
  have hl : signs5.cps.toList.length = 15 := by decide +kernel
  have hi : i < signs5.cps.toList.length := by rw [hl]; omega
  exact ⟨_, atI_nat (List.getElem?_eq_getElem hi)⟩
theorem pick_two (x : Str) (hx : x.length ≤ 1) {z : Int} (h0 : 0 ≤ z) (h1 : z < 2) : ∃ sg : Str, sg.length ≤ 1 ∧ atI [V.str "", V.str x] z = some (V.str sg) := by
  have hz : z = 0 ∨ z = 1 := by omega
  rcases hz with rfl | rfl
  · exact ⟨"", by decide, atI_nat (j := 0) rfl⟩
  · exact ⟨x, hx, atI_nat (j := 1) rfl⟩
section
variable {P : Program} {w : World} {K : PySem.W.Frag} {mg : Str → Option Value} {base : Heap}
def sp_law (K : PySem.W.Frag) : Sp := fun vs H Q _ => ∃ (a : Addr) (ns : List Int), vs = [.ref a] ∧ SqL K H a (ns.map V.int) ∧ ns.length ≤ 63 ∧ ∀ H', Q (.bl true) H'
theorem ok_law {f0 : Addr} {fd0 : FuncData} (D : At K mg "law" s_law ["_law_script"] f0 fd0) (B : Bi mg) (G_law_cell_at : Ok P w K mg base "_law_cell_at" ["_law_script", "_law_k"] 1 (sp_cell_at K)) (G_law_draw : Ok P w K mg base "_law_draw" ["_law_cell", "_law_k", "_law_many"] 1 sp_draw)
    (G_law_wheels : Ok P w K mg base "_law_wheels" ["_law_script"] 2 (sp_wheels K)) (G_law_setting : Ok P w K mg base "_law_setting" ["_law_script", "_law_wheels_here", "_law_by"] 2 (sp_setting K)) (G_written : Ok P w K mg base "written" ["wheels", "setting"] 12 (sp_written K))
    (G_law_refused : Ok P w K mg base "_law_refused" ["_law_text"] 13 (sp_refused5 (Bad5 K))) (G_law_right : Ok P w K mg base "_law_right" ["_law_text"] 14 sp_right5) (G_law_few : Ok P w K mg base "_law_few" [] 1 sp_few) : FnOk P w K mg base CX0 15 f0 fd0 ["_law_script"] (sp_law K) := by
  refine D.ok sc_law (fun vs H Q E h => ?_) (fun cdv A outer s H vs Q E hr h => ?_)
  · obtain ⟨a, ns, rfl, _⟩ := h
    rfl
  · obtain ⟨a, ns, rfl, hS, hlen, q⟩ := h
    refine ⟨_, (pss_cons (ps_set (i := 1) sc_law.nd rfl (.inl rfl) (pe_ok G_law_wheels hr (by decide) (pa_cons (pv 0) pa_nil)))
      (pss_cons (ps_set (i := 2) sc_law.nd rfl (.inl rfl) (pe_ok G_law_setting hr (by decide) (pa_cons (pv 0) (pa_cons (pv 1) (pa_cons pe_int pa_nil)))))
      (pss_cons (ps_set (i := 3) sc_law.nd rfl (.inl rfl) (pe_op op_add_str (pe_op op_add_str (pe_join pe_str (pe_lc (own := [("_law_size", 12)]) (g := gName 12) (tt := tYes) rfl sc_law.nd (pi_list (pv 1)) (blkOk_by (own := [("_law_size", 12)]) (N := ["_law_script", "_law_wheels_here", "_law_setting_here", "_law_text", "_law_handed", "_law_cell", "_law_k", "_law_at", "_law_sign", "_law_thing", "_law_number_here", "_law_other", "_law_size"]) (sc := defScope s_law) (by decide +kernel)) (fun _ _ _ _ _ => pg_name (i := 12) sc_law.nd rfl (.inl rfl)) (fun _ _ _ _ _ => pts_nil) (fun _ _ _ _ _ => (pe_callTy call_str_int (by rfl) B.str boot_str (pa_cons (pv 12) pa_nil))))) pe_str) (pe_join pe_str (pe_lc (own := [("_law_number_here", 10)]) (g := gName 10) (tt := tYes) rfl sc_law.nd (pi_list (pv 2)) (blkOk_by (own := [("_law_number_here", 10)]) (N := ["_law_script", "_law_wheels_here", "_law_setting_here", "_law_text", "_law_handed", "_law_cell", "_law_k", "_law_at", "_law_sign", "_law_thing", "_law_number_here", "_law_other", "_law_size"]) (sc := defScope s_law) (by decide +kernel)) (fun _ _ _ _ _ => pg_name (i := 10) sc_law.nd rfl (.inl rfl)) (fun _ _ _ _ _ => pts_nil) (fun _ _ _ _ _ => (pe_op op_add_str pe_str (pe_callTy call_str_int (by rfl) B.str boot_str (pa_cons (pv 10) pa_nil))))))))
      (pss_cons (ps_set (i := 4) sc_law.nd rfl (.inl rfl) (pe_lst (pa_cons (pe_callTy (listK K) (by rfl) B.list boot_list (pa_cons (pv 1) pa_nil)) (pa_cons (pe_callTy (listK K) (by rfl) B.list boot_list (pa_cons (pv 2) pa_nil)) pa_nil))))
      (pss_cons (ps_if (PW.pt (pw_or (pt_cmpR op_ne (pe_ok G_written hr (by decide) (pa_cons (pe_ix (ixL K) (pv 4) pe_int (fun _ _ => rfl)) (pa_cons (pe_ix (ixL K) (pv 4) pe_int (fun _ _ => rfl)) pa_nil))) (pv 3) (nomark _)) (pw_or (pt_cmpR (neDK K hr.units) (pv 4) (pe_lst (pa_cons (pv 1) (pa_cons (pv 2) pa_nil))) (nomark _)) (pw_or1 (pt_not (pt_val (pe_ok G_law_right hr (by decide) (pa_cons (pv 3) pa_nil))))))))
        (pss_one (ps_ret pe_bl))
        pss_nil)
      (pss_cons (ps_set (i := 5) sc_law.nd rfl (.inl rfl) (pe_op op_add (pe_ok G_law_cell_at hr (by decide) (pa_cons (pv 0) (pa_cons pe_int pa_nil))) (pe_op op_mul pe_int (pe_ok G_law_cell_at hr (by decide) (pa_cons (pv 0) (pa_cons pe_int pa_nil))))))
      (pss_cons (ps_for PassesOwn.never rfl (pi_range1 (by rfl) B.range (pa_cons pe_int pa_nil)) (pg_name (i := 6) sc_law.nd rfl (.inl rfl))
        (pss_cons (ps_set (i := 7) sc_law.nd rfl (.inl rfl) (pe_ok G_law_draw hr (by decide) (pa_cons (pe_op op_add (pv 5) (pv 6)) (pa_cons pe_int (pa_cons (pe_op op_add (pe_callB call_len_str (by rfl) B.len PySem.boot_len (pa_cons (pv 3) pa_nil)) pe_int) pa_nil)))))
        (pss_cons (ps_set (i := 8) sc_law.nd rfl (.inl rfl) (pe_ix (ixT K) (pe_tup (pa_cons pe_str (pa_cons (pe_ix ix_str pe_str (pe_ok G_law_draw hr (by decide) (pa_cons (pe_op op_add (pv 5) (pv 6)) (pa_cons pe_int (pa_cons pe_int pa_nil)))) (fun _ _ => rfl)) pa_nil))) (pe_ok G_law_draw hr (by decide) (pa_cons (pe_op op_add (pv 5) (pv 6)) (pa_cons pe_int (pa_cons pe_int pa_nil)))) (fun _ _ => rfl)))
        (pss_one (ps_if (pt_not (pt_val (pe_ok G_law_right hr (by decide) (pa_cons (pe_op op_add_str (pe_op op_add_str (pe_slice sl_str (pv 3) po_none (po_some (pv 7))) (pv 8)) (pe_slice sl_str (pv 3) (po_some (pe_op op_add (pv 7) (pe_ok G_law_draw hr (by decide) (pa_cons (pe_op op_add (pv 5) (pv 6)) (pa_cons pe_int (pa_cons pe_int pa_nil)))))) po_none)) pa_nil))))
          (pss_one (ps_ret pe_bl))
          pss_nil)))))
      (pss_cons (ps_if (pt_not (pt_val (pe_callB (allK K rfl) (by rfl) B.all (by decide +kernel) (pa_cons (pe_lc (own := [("_law_other", 11)]) (g := gName 11) (tt := tYes) rfl sc_law.nd (pi_list (pe_ok0 G_law_few hr (by decide))) (blkOk_by (own := [("_law_other", 11)]) (N := ["_law_script", "_law_wheels_here", "_law_setting_here", "_law_text", "_law_handed", "_law_cell", "_law_k", "_law_at", "_law_sign", "_law_thing", "_law_number_here", "_law_other", "_law_size"]) (sc := defScope s_law) (by decide +kernel)) (fun _ _ _ _ _ => pg_name (i := 11) sc_law.nd rfl (.inl rfl)) (fun _ _ _ _ _ => pts_nil) (fun _ _ _ _ _ => (pe_ok G_law_right hr (by decide) (pa_cons (pv 11) pa_nil)))) pa_nil))))
        (pss_one (ps_ret pe_bl))
        pss_nil)
      (pss_one (ps_ret (pe_callB (allK K rfl) (by rfl) B.all (by decide +kernel) (pa_cons (pe_lc (own := [("_law_thing", 9)]) (g := gName 9) (tt := tYes) rfl sc_law.nd (pi_list (pe_lst (pa_cons pe_non (pa_cons pe_int (pa_cons (pe_lst (pa_cons pe_str pa_nil)) (pa_cons pe_bl pa_nil)))))) (blkOk_by (own := [("_law_thing", 9)]) (N := ["_law_script", "_law_wheels_here", "_law_setting_here", "_law_text", "_law_handed", "_law_cell", "_law_k", "_law_at", "_law_sign", "_law_thing", "_law_number_here", "_law_other", "_law_size"]) (sc := defScope s_law) (by decide +kernel)) (fun _ _ _ _ _ => pg_name (i := 9) sc_law.nd rfl (.inl rfl)) (fun _ _ _ _ _ => pts_nil) (fun _ _ _ _ _ => (pe_ok G_law_refused hr (by decide) (pa_cons (pv 9) pa_nil)))) pa_nil)))))))))))), ?_⟩
    refine ⟨_, rfl, a, ns, rfl, hS, hlen, fun ws b H1 hs ew s1 nb eb => ?_⟩
    have hl : ws.length ≤ 63 := by omega
    have ho := hs.ones
    refine ⟨_, rfl, _, rfl, a, b, ns, ws, 2, rfl, s1.seq hS, SqL.of eb, (by omega), (by omega), ho, fun st c H2 hok s2 nc ec => ?_⟩
    replace eb := s2 _ _ eb
    have e1 := okS_len hok
    have hws : ∀ x ∈ ws, 0 ≤ x ∧ x < 10 ^ 60 := fun x hx => by
      have h1 := hs x hx
      have h2 : big < 10 ^ 60 := by decide +kernel
      exact ⟨by omega, by omega⟩
    have hst : ∀ x ∈ st, 0 ≤ x ∧ x < 10 ^ 60 := fun x hx => by
      obtain ⟨h0, z, hz, h1⟩ := okS_mem hok x hx
      have := (hws z hz).2
      exact ⟨h0, by omega⟩
    -- the text
    refine ⟨⟨_, rfl⟩, _, rfl, b, rfl, ⟨_, SqL.of eb⟩, fun D1 nD1 => ?_⟩
    refine lc_list (K := K) (a := b) (xs := ws.map V.int) (fun i H4 => Same H2 H4 ∧ H4 D1 = some (.lst (((ws.take i).map fig).map V.str))) ⟨same_upd nD1, upd_same⟩ (fun i H4 _ h => h.1.seq (SqL.of eb)) ?_ ?_
    · rintro i x H4 hx ⟨s4, eD⟩
      obtain ⟨z, hz, rfl⟩ := map_int_at hx
      have hi : i < ws.length := (List.getElem?_eq_some_iff.mp hz).1
      have hzb := hws z (List.mem_of_getElem? hz)
      refine ⟨rfl, _, rfl, z, rfl, fig_bits hzb.1 hzb.2, _, eD, ?_, ?_, ?_⟩
      · rw [List.length_map, List.length_map, List.length_take]
        exact lt_line (by omega)
      · intro d u e
        rw [upd_ne (ne_of_none e nD1)]
        exact s4 _ _ e
      · rw [upd_same, take_more hz, List.map_append, List.map_append]
        rfl
    rintro H4 ⟨s4, eD1⟩
    rw [List.length_map, List.take_length] at eD1
    have b1 : ((ws.map fig).map (·.length)).sum + (ws.map fig).length * (" " : Str).length ≤ 3843 := by
      have := sizes_lens hws
      have e2 : (" " : Str).length = 1 := rfl
      rw [List.length_map, e2]
      omega
    have j1 := Nat.le_trans (StrLaws.join_length_le " " (ws.map fig)) b1
    rw [← StrLaws.glued_eq_join] at j1
    replace j1 : (Txt.join " " (ws.map fig)).length ≤ 3843 := j1
    have o1 : (":" : Str).length = 1 := rfl
    have o2 : (" " : Str).length = 1 := rfl
    refine ⟨" ", D1, ws.map fig, rfl, rfl, .inl (SqL.of eD1), Nat.le_trans b1 (by decide), _, _, rfl, rfl, le_line (by omega), ?_⟩
    replace eb := s4 _ _ eb
    replace ec := s4 _ _ ec
    refine ⟨⟨_, rfl⟩, _, rfl, c, rfl, ⟨_, SqL.of ec⟩, fun D2 nD2 => ?_⟩
    refine lc_list (K := K) (a := c) (xs := st.map V.int) (fun i H5 => Same H4 H5 ∧ H5 D2 = some (.lst (((st.take i).map fun p => (" " : Str) ++ fig p).map V.str))) ⟨same_upd nD2, upd_same⟩ (fun i H5 _ h => h.1.seq (SqL.of ec)) ?_ ?_
    · rintro i x H5 hx ⟨s5, eD2⟩
      obtain ⟨z, hz, rfl⟩ := map_int_at hx
      have hi : i < st.length := (List.getElem?_eq_some_iff.mp hz).1
      have hzb := hst z (List.mem_of_getElem? hz)
      have hz1 := fig_len hzb.1 hzb.2
      refine ⟨rfl, _, rfl, z, rfl, fig_bits hzb.1 hzb.2, " ", fig z, rfl, rfl, le_line (by omega), _, eD2, ?_, ?_, ?_⟩
      · rw [List.length_map, List.length_map, List.length_take]
        exact lt_line (by omega)
      · intro d u e
        rw [upd_ne (ne_of_none e nD2)]
        exact s5 _ _ e
      · rw [upd_same, take_more hz, List.map_append, List.map_append]
        rfl
    rintro H5 ⟨s5, eD2⟩
    rw [List.length_map, List.take_length] at eD2
    have b2 : ((st.map fun p => (" " : Str) ++ fig p).map (·.length)).sum + (st.map fun p => (" " : Str) ++ fig p).length * ("" : Str).length ≤ 3843 := by
      have := nums_lens5 hst
      have e2 : ("" : Str).length = 0 := rfl
      rw [List.length_map, e2]
      omega
    have j2 := Nat.le_trans (StrLaws.join_length_le "" (st.map fun p => (" " : Str) ++ fig p)) b2
    rw [← StrLaws.glued_eq_join] at j2
    replace j2 : (Txt.join "" (st.map fun p => (" " : Str) ++ fig p)).length ≤ 3843 := j2
    refine ⟨"", D2, st.map fun p => (" " : Str) ++ fig p, rfl, rfl, .inl (SqL.of eD2), Nat.le_trans b2 (by decide), _, _, rfl, rfl, le_line (by rw [app_len]; omega), ?_⟩
    have et := txtL_eq ws st
    have hlt : (txtL ws st).length ≤ 7687 := by
      unfold txtL
      rw [app_len, app_len]
      omega
    replace eb := s5 _ _ eb
    replace ec := s5 _ _ ec
    clear eD1 eD2
    unfold txtL at et hlt
    generalize Txt.join " " (ws.map fig) ++ ":" ++ Txt.join "" (st.map fun p => (" " : Str) ++ fig p) = tx at et hlt ⊢
    have s15 : Same H H5 := s1.trans (s2.trans (s4.trans s5))
    -- handed
    refine ⟨_, rfl, b, _, rfl, .inl (SqL.of eb), fun c0 n0 => ?_⟩
    have t1 : Same H5 (upd H5 c0 (.lst (ws.map V.int))) := same_upd n0
    have f1 : (upd H5 c0 (.lst (ws.map V.int))) c0 = some (.lst (ws.map V.int)) := upd_same
    generalize upd H5 c0 (.lst (ws.map V.int)) = H6 at t1 f1 ⊢
    refine ⟨_, rfl, c, _, rfl, .inl (SqL.of (t1 _ _ ec)), fun c1 n1 => ?_⟩
    have t2 : Same H6 (upd H6 c1 (.lst (st.map V.int))) := same_upd n1
    have f2 : (upd H6 c1 (.lst (st.map V.int))) c1 = some (.lst (st.map V.int)) := upd_same
    generalize upd H6 c1 (.lst (st.map V.int)) = H7 at t2 f2 ⊢
    refine ⟨(by show 2 ≤ sizeLine; decide), fun hd nh => ?_⟩
    have t3 : Same H7 (upd H7 hd (.lst [.ref c0, .ref c1])) := same_upd nh
    have f3 : (upd H7 hd (.lst [.ref c0, .ref c1])) hd = some (.lst [.ref c0, .ref c1]) := upd_same
    generalize upd H7 hd (.lst [.ref c0, .ref c1]) = H8 at t3 f3 ⊢
    have g1 := t3 _ _ (t2 _ _ f1)
    have g2 := t3 _ _ f2
    have at0 : atI [V.ref c0, V.ref c1] 0 = some (V.ref c0) := by
      unfold atI ixN
      simp
    have at1 : atI [V.ref c0, V.ref c1] 1 = some (V.ref c1) := by
      unfold atI ixN
      simp
    have s58 : Same H5 H8 := t1.trans (t2.trans t3)
    refine ⟨_, rfl, hd, _, 0, _, rfl, rfl, SqL.of f3, at0, _, rfl, hd, _, 1, _, rfl, rfl, SqL.of f3, at1, c0, c1, ws, st, rfl, SqL.of g1, SqL.of g2, fun x hx => (hs x hx).1, fun x hx => (hws x hx).2, (by omega), hok, fun H9 s9 => ?_⟩
    refine ⟨_, rfl, rfl, _, rfl, ?_⟩
    rw [decide_eq_true (show V.str (txtOf ws st) = V.str tx from congrArg V.str et.symm)]
    refine iteF ⟨_, rfl, _, rfl, _, rfl, (by show 2 ≤ sizeLine; decide), fun l nl => ?_⟩
    have s10 : Same H9 (upd H9 l (.lst [.ref b, .ref c])) := same_upd nl
    have f10 : (upd H9 l (.lst [.ref b, .ref c])) l = some (.lst [.ref b, .ref c]) := upd_same
    generalize upd H9 l (.lst [.ref b, .ref c]) = H10 at s10 f10 ⊢
    have s810 := s9.trans s10
    have k1 := s810 _ _ g1
    have k2 := s810 _ _ g2
    have k3 := s810 _ _ f3
    have k4 := s810 _ _ (s58 _ _ eb)
    have k5 := s810 _ _ (s58 _ _ ec)
    have d1 : Dp K H10 (.ref hd) (.list (([(c0, ws), (c1, st)].map (·.2)).map fun r => PyData.list (r.map PyData.int))) := dp_rows (L := [(c0, ws), (c1, st)]) (SqL.of k3) fun q hq => by
      rcases List.mem_cons.mp hq with rfl | hq
      · exact SqL.of k1
      · rw [List.mem_singleton.mp hq]
        exact SqL.of k2
    have d2 : Dp K H10 (.ref l) (.list (([(b, ws), (c, st)].map (·.2)).map fun r => PyData.list (r.map PyData.int))) := dp_rows (L := [(b, ws), (c, st)]) (SqL.of f10) fun q hq => by
      rcases List.mem_cons.mp hq with rfl | hq
      · exact SqL.of k4
      · rw [List.mem_singleton.mp hq]
        exact SqL.of k5
    have er : PyData.eqv (.list (([(c0, ws), (c1, st)].map (·.2)).map fun r => PyData.list (r.map PyData.int))) (.list (([(b, ws), (c, st)].map (·.2)).map fun r => PyData.list (r.map PyData.int))) = true := eqv_refl_rows [ws, st]
    refine ⟨_, _, d1, d2, shaped_rows _, shaped_rows _, _, rfl, ?_⟩
    rw [er]
    refine iteF ⟨_, rfl, tx, rfl, (by omega), fun H11 s11 => ⟨_, rfl, iteF ?_⟩⟩
    have s111 : Same H H11 := s15.trans (s58.trans (s810.trans s11))
    replace hS := s111.seq hS
    clear d1 d2 er k1 k2 k3 k4 k5 g1 g2
    -- two texts beside it
    refine ⟨_, rfl, a, ns, 3, rfl, hS, fun cl1 => ⟨_, rfl, a, ns, 0, rfl, hS, fun cl0 => ⟨_, _, rfl, rfl, .inl ⟨by decide, by decide⟩, _, _, rfl, rfl, ?_⟩⟩⟩
    refine ⟨2, rfl, (by decide), (by decide), ?_⟩
    refine for_range (lo := 0) (fun i σ H3 => ∃ y6 y7 y8 : Option V, σ = [some (.ref a), some (.ref b), some (.ref c), some (.str tx), some (.ref hd), some (.int (cl1 + 7 * cl0)), y6, y7, y8, none, none, none, none] ∧ Same H11 H3) ⟨none, none, none, rfl, Same.refl H11⟩ ?_ ?_
    · rintro i σ H3 hi ⟨y6, y7, y8, rfl, s3⟩
      refine ⟨_, rfl, _, rfl, _, _, rfl, rfl, _, rfl, tx, rfl, le_line (by omega), _, _, rfl, rfl, _, _, _, rfl, (by omega), fun pos J1 h0 h1 v1 => ?_⟩
      refine ⟨_, rfl, _, rfl, _, _, rfl, rfl, _, _, _, rfl, (by decide), fun z1 J2 h2 h3 v2 => ?_⟩
      obtain ⟨cd, hcd⟩ := sign_at h2 h3
      refine ⟨signs5, z1, cd, rfl, rfl, (by decide), hcd, (by show 2 ≤ sizeLine; decide), fun pt npt => ?_⟩
      have v3 : Same J2 (upd J2 pt (.tup [.str "", .str ⟨#[cd]⟩])) := same_upd npt
      have w3 : (upd J2 pt (.tup [.str "", .str ⟨#[cd]⟩])) pt = some (.tup [.str "", .str ⟨#[cd]⟩]) := upd_same
      generalize upd J2 pt (.tup [.str "", .str ⟨#[cd]⟩]) = J3 at v3 w3 ⊢
      refine ⟨_, rfl, _, rfl, _, _, rfl, rfl, _, _, _, rfl, (by decide), fun z2 J4 h4 h5 v4 => ?_⟩
      obtain ⟨sg, hsg, hat⟩ := pick_two ⟨#[cd]⟩ (Nat.le_refl 1) h4 h5
      refine ⟨pt, _, z2, _, rfl, rfl, SqT.of (v4 _ _ w3), hat, ?_⟩
      refine ⟨_, rfl, _, rfl, _, rfl, tx, rfl, le_line (by omega), _, rfl, _, _, rfl, rfl, ?_, ?_⟩
      · have := cutS_length tx none (some pos)
        exact le_line (by omega)
      refine ⟨_, rfl, _, rfl, _, rfl, _, rfl, _, _, rfl, rfl, _, _, _, rfl, (by decide), fun z3 J5 h6 h7 v5 => ?_⟩
      have hcut := cut_two tx h0 h6
      refine ⟨_, _, rfl, rfl, _, rfl, tx, rfl, le_line (by omega), _, _, rfl, rfl, ?_, ?_⟩
      · rw [app_len]
        exact le_line (by omega)
      refine ⟨_, rfl, ?_, fun J6 v6 => ⟨_, rfl, iteF ⟨_, _, _, rfl, s3.trans (v1.trans (v2.trans (v3.trans (v4.trans (v5.trans v6)))))⟩⟩⟩
      rw [app_len, app_len]
      omega
    rintro σ H12 ⟨y6, y7, y8, rfl, s12⟩
    -- its few texts
    refine ⟨rfl, fun pf H13 s13 nf ef => ⟨pf, rfl, ⟨_, SqL.of ef⟩, fun D3 nD3 => ?_⟩⟩
    refine lc_list (K := K) (a := pf) (xs := fewL.map V.str) (fun i H4 => Same H13 H4 ∧ H4 D3 = some (.lst ((List.replicate i true).map V.bl))) ⟨same_upd nD3, upd_same⟩ (fun i H4 _ h => h.1.seq (SqL.of ef)) ?_ ?_
    · rintro i x H14 hx ⟨s14, eD⟩
      obtain ⟨z, hz, rfl⟩ := map_str_at hx
      refine ⟨rfl, _, rfl, z, rfl, few_len z (List.mem_of_getElem? hz), fun H15 s15 => ⟨_, s15 _ _ eD, ?_, ?_, ?_⟩⟩
      · have hi : i < fewL.length := (List.getElem?_eq_some_iff.mp hz).1
        have hf : fewL.length = 45 := rfl
        rw [List.length_map, List.length_replicate]
        exact lt_line (by omega)
      · exact fun d u e => by
          rw [upd_ne (ne_of_none e nD3)]
          exact (s14.trans s15) _ _ e
      · rw [upd_same, List.replicate_succ', List.map_append]
        rfl
    rintro H14 ⟨s14, eD3⟩
    refine ⟨D3, _, rfl, SqL.of eD3, _, rfl, ?_⟩
    rw [all_rep]
    refine iteF ?_
    -- what is no text
    refine ⟨(by show 1 ≤ sizeLine; decide), fun pl nl => ?_⟩
    have v1 : Same H14 (upd H14 pl (.lst [.str "2: 1"])) := same_upd nl
    have u1 : (upd H14 pl (.lst [.str "2: 1"])) pl = some (.lst [.str "2: 1"]) := upd_same
    generalize upd H14 pl (.lst [.str "2: 1"]) = H15 at v1 u1 ⊢
    refine ⟨(by show 4 ≤ sizeLine; decide), fun pm nm => ⟨pm, rfl, ⟨_, SqL.of upd_same⟩, fun D4 nD4 => ?_⟩⟩
    generalize eH : upd H15 pm _ = H16 at nD4 ⊢
    have v2 : Same H15 H16 := eH ▸ same_upd nm
    have u2 : H16 pm = some (.lst [.non, .int 5, .ref pl, .bl true]) := eH ▸ upd_same
    have u3 := v2 _ _ u1
    clear eH
    refine lc_list (K := K) (a := pm) (xs := [.non, .int 5, .ref pl, .bl true]) (fun i H4 => Same H16 H4 ∧ H4 D4 = some (.lst ((List.replicate i true).map V.bl))) ⟨same_upd nD4, upd_same⟩ (fun i H4 _ h => h.1.seq (SqL.of u2)) ?_ ?_
    · rintro i x H17 hx ⟨s17, eD⟩
      have hb : NoStr K H17 x := by
        have hm := List.mem_of_getElem? hx
        simp only [List.mem_cons, List.not_mem_nil, or_false] at hm
        rcases hm with rfl | rfl | rfl | rfl
        · exact ⟨"NoneType", .base .non, by decide +kernel⟩
        · exact ⟨"int", .base (.int 5), by decide +kernel⟩
        · exact ⟨"list", .base (.lst (s17 _ _ u3)), by decide +kernel⟩
        · exact ⟨"bool", .base (.bl true), by decide +kernel⟩
      refine ⟨rfl, _, rfl, x, rfl, .inr hb, fun H18 s18 => ⟨_, s18 _ _ eD, ?_, ?_, ?_⟩⟩
      · have hi : i < 4 := (List.getElem?_eq_some_iff.mp hx).1
        rw [List.length_map, List.length_replicate]
        exact lt_line (by omega)
      · exact fun d u e => by
          rw [upd_ne (ne_of_none e nD4)]
          exact (s17.trans s18) _ _ e
      · rw [upd_same, List.replicate_succ', List.map_append]
        rfl
    rintro H17 ⟨s17, eD4⟩
    refine ⟨D4, _, rfl, SqL.of eD4, ?_⟩
    rw [all_rep]
    exact q _
end
end Ww
namespace Ww
open PySem PySem.Spec PyProof.Rows L2
/-! ### what the top has written of each def -/
theorem all_mk {l : PySem.W.OpenLaw} {w : World} {K : PySem.W.Frag} {h : Heap} {mg : Str → Option Value} {fa f1 f2 f3 f4 f5 f6 f7 f8 f9 f10 f11 f12 f13 f14 f15 f16 f17 f18 f19 : Addr} (X : K.In h) (G : h.Ns mainGlobals mg) (hfa : mg "law" = some (.ref fa))
    {od1 an1 od2 an2 od3 an3 od4 an4 od5 an5 od6 an6 od7 an7 od8 an8 od9 an9 od10 an10 od11 an11 od12 an12 od13 an13 od14 an14 od15 an15 od16 an16 od17 an17 od18 an18 od19 an19 : Option Addr} {sl1 sl2 sl3 sl4 sl5 sl6 sl7 sl8 sl9 sl10 sl11 sl12 sl13 sl14 sl15 sl16 sl17 sl18 sl19 : Array (Option Value)} {oc1 kV1 dc1 pm1 cd1 ct1 oc2 kV2 dc2 pm2 cd2 ct2 oc3 kV3 dc3 pm3 cd3 ct3 oc4 kV4 dc4 pm4 cd4 ct4 oc5 kV5 dc5 pm5 cd5 ct5 oc6 kV6 dc6 pm6 cd6 ct6 oc7 kV7 dc7 pm7 cd7 ct7 oc8 kV8 dc8 pm8 cd8 ct8 oc9 kV9 dc9 pm9 cd9 ct9 oc10 kV10 dc10 pm10 cd10 ct10 oc11 kV11 dc11 pm11 cd11 ct11 oc12 kV12 dc12 pm12 cd12 ct12 oc13 kV13 dc13 pm13 cd13 ct13 oc14 kV14 dc14 pm14 cd14 ct14 oc15 kV15 dc15 pm15 cd15 ct15 oc16 kV16 dc16 pm16 cd16 ct16 oc17 kV17 dc17 pm17 cd17 ct17 oc18 kV18 dc18 pm18 cd18 ct18 oc19 kV19 dc19 pm19 cd19 ct19 : Value}
    (a1 : PySem.W.nsIn K mainGlobals "is_whole" = some (some (.ref f1))) (l1 : K.lookup f1 = some ⟨oc1, od1, .func (PySem.W.fnOf "is_whole" "is_whole" (defArgs s_is_whole) (defBody s_is_whole) (defScope s_is_whole) .none kV1 dc1 pm1 an1 cd1 ct1), sl1⟩) (c1 : PySem.W.codeIn K cd1 "is_whole" = true) (k1 : PySem.W.keepIn K (.ref f1) = true)
    (a2 : PySem.W.nsIn K mainGlobals "check_wheels" = some (some (.ref f2))) (l2 : K.lookup f2 = some ⟨oc2, od2, .func (PySem.W.fnOf "check_wheels" "check_wheels" (defArgs s_check_wheels) (defBody s_check_wheels) (defScope s_check_wheels) .none kV2 dc2 pm2 an2 cd2 ct2), sl2⟩) (c2 : PySem.W.codeIn K cd2 "check_wheels" = true) (k2 : PySem.W.keepIn K (.ref f2) = true)
    (a3 : PySem.W.nsIn K mainGlobals "is_setting" = some (some (.ref f3))) (l3 : K.lookup f3 = some ⟨oc3, od3, .func (PySem.W.fnOf "is_setting" "is_setting" (defArgs s_is_setting) (defBody s_is_setting) (defScope s_is_setting) .none kV3 dc3 pm3 an3 cd3 ct3), sl3⟩) (c3 : PySem.W.codeIn K cd3 "is_setting" = true) (k3 : PySem.W.keepIn K (.ref f3) = true)
    (a4 : PySem.W.nsIn K mainGlobals "check_setting" = some (some (.ref f4))) (l4 : K.lookup f4 = some ⟨oc4, od4, .func (PySem.W.fnOf "check_setting" "check_setting" (defArgs s_check_setting) (defBody s_check_setting) (defScope s_check_setting) .none kV4 dc4 pm4 an4 cd4 ct4), sl4⟩) (c4 : PySem.W.codeIn K cd4 "check_setting" = true) (k4 : PySem.W.keepIn K (.ref f4) = true)
    (a5 : PySem.W.nsIn K mainGlobals "written" = some (some (.ref f5))) (l5 : K.lookup f5 = some ⟨oc5, od5, .func (PySem.W.fnOf "written" "written" (defArgs s_written) (defBody s_written) (defScope s_written) .none kV5 dc5 pm5 an5 cd5 ct5), sl5⟩) (c5 : PySem.W.codeIn K cd5 "written" = true) (k5 : PySem.W.keepIn K (.ref f5) = true)
    (a6 : PySem.W.nsIn K mainGlobals "read" = some (some (.ref f6))) (l6 : K.lookup f6 = some ⟨oc6, od6, .func (PySem.W.fnOf "read" "read" (defArgs s_read) (defBody s_read) (defScope s_read) .none kV6 dc6 pm6 an6 cd6 ct6), sl6⟩) (c6 : PySem.W.codeIn K cd6 "read" = true) (k6 : PySem.W.keepIn K (.ref f6) = true)
    (a7 : PySem.W.nsIn K mainGlobals "_numbers" = some (some (.ref f7))) (l7 : K.lookup f7 = some ⟨oc7, od7, .func (PySem.W.fnOf "_numbers" "_numbers" (defArgs s_numbers) (defBody s_numbers) (defScope s_numbers) .none kV7 dc7 pm7 an7 cd7 ct7), sl7⟩) (c7 : PySem.W.codeIn K cd7 "_numbers" = true) (k7 : PySem.W.keepIn K (.ref f7) = true)
    (a8 : PySem.W.nsIn K mainGlobals "_number" = some (some (.ref f8))) (l8 : K.lookup f8 = some ⟨oc8, od8, .func (PySem.W.fnOf "_number" "_number" (defArgs s_number) (defBody s_number) (defScope s_number) .none kV8 dc8 pm8 an8 cd8 ct8), sl8⟩) (c8 : PySem.W.codeIn K cd8 "_number" = true) (k8 : PySem.W.keepIn K (.ref f8) = true)
    (a9 : PySem.W.nsIn K mainGlobals "_law_cell_at" = some (some (.ref f9))) (l9 : K.lookup f9 = some ⟨oc9, od9, .func (PySem.W.fnOf "_law_cell_at" "_law_cell_at" (defArgs s_law_cell_at) (defBody s_law_cell_at) (defScope s_law_cell_at) .none kV9 dc9 pm9 an9 cd9 ct9), sl9⟩) (c9 : PySem.W.codeIn K cd9 "_law_cell_at" = true) (k9 : PySem.W.keepIn K (.ref f9) = true)
    (a10 : PySem.W.nsIn K mainGlobals "_law_draw" = some (some (.ref f10))) (l10 : K.lookup f10 = some ⟨oc10, od10, .func (PySem.W.fnOf "_law_draw" "_law_draw" (defArgs s_law_draw) (defBody s_law_draw) (defScope s_law_draw) .none kV10 dc10 pm10 an10 cd10 ct10), sl10⟩) (c10 : PySem.W.codeIn K cd10 "_law_draw" = true) (k10 : PySem.W.keepIn K (.ref f10) = true)
    (a11 : PySem.W.nsIn K mainGlobals "_law_wheels" = some (some (.ref f11))) (l11 : K.lookup f11 = some ⟨oc11, od11, .func (PySem.W.fnOf "_law_wheels" "_law_wheels" (defArgs s_law_wheels) (defBody s_law_wheels) (defScope s_law_wheels) .none kV11 dc11 pm11 an11 cd11 ct11), sl11⟩) (c11 : PySem.W.codeIn K cd11 "_law_wheels" = true) (k11 : PySem.W.keepIn K (.ref f11) = true)
    (a12 : PySem.W.nsIn K mainGlobals "_law_setting" = some (some (.ref f12))) (l12 : K.lookup f12 = some ⟨oc12, od12, .func (PySem.W.fnOf "_law_setting" "_law_setting" (defArgs s_law_setting) (defBody s_law_setting) (defScope s_law_setting) .none kV12 dc12 pm12 an12 cd12 ct12), sl12⟩) (c12 : PySem.W.codeIn K cd12 "_law_setting" = true) (k12 : PySem.W.keepIn K (.ref f12) = true)
    (a13 : PySem.W.nsIn K mainGlobals "_law_is_setting" = some (some (.ref f13))) (l13 : K.lookup f13 = some ⟨oc13, od13, .func (PySem.W.fnOf "_law_is_setting" "_law_is_setting" (defArgs s_law_is_setting) (defBody s_law_is_setting) (defScope s_law_is_setting) .none kV13 dc13 pm13 an13 cd13 ct13), sl13⟩) (c13 : PySem.W.codeIn K cd13 "_law_is_setting" = true) (k13 : PySem.W.keepIn K (.ref f13) = true)
    (a14 : PySem.W.nsIn K mainGlobals "_law_number" = some (some (.ref f14))) (l14 : K.lookup f14 = some ⟨oc14, od14, .func (PySem.W.fnOf "_law_number" "_law_number" (defArgs s_law_number) (defBody s_law_number) (defScope s_law_number) .none kV14 dc14 pm14 an14 cd14 ct14), sl14⟩) (c14 : PySem.W.codeIn K cd14 "_law_number" = true) (k14 : PySem.W.keepIn K (.ref f14) = true)
    (a15 : PySem.W.nsIn K mainGlobals "_law_in" = some (some (.ref f15))) (l15 : K.lookup f15 = some ⟨oc15, od15, .func (PySem.W.fnOf "_law_in" "_law_in" (defArgs s_law_in) (defBody s_law_in) (defScope s_law_in) .none kV15 dc15 pm15 an15 cd15 ct15), sl15⟩) (c15 : PySem.W.codeIn K cd15 "_law_in" = true) (k15 : PySem.W.keepIn K (.ref f15) = true)
    (a16 : PySem.W.nsIn K mainGlobals "_law_refused" = some (some (.ref f16))) (l16 : K.lookup f16 = some ⟨oc16, od16, .func (PySem.W.fnOf "_law_refused" "_law_refused" (defArgs s_law_refused) (defBody s_law_refused) (defScope s_law_refused) .none kV16 dc16 pm16 an16 cd16 ct16), sl16⟩) (c16 : PySem.W.codeIn K cd16 "_law_refused" = true) (k16 : PySem.W.keepIn K (.ref f16) = true)
    (a17 : PySem.W.nsIn K mainGlobals "_law_right" = some (some (.ref f17))) (l17 : K.lookup f17 = some ⟨oc17, od17, .func (PySem.W.fnOf "_law_right" "_law_right" (defArgs s_law_right) (defBody s_law_right) (defScope s_law_right) .none kV17 dc17 pm17 an17 cd17 ct17), sl17⟩) (c17 : PySem.W.codeIn K cd17 "_law_right" = true) (k17 : PySem.W.keepIn K (.ref f17) = true)
    (a18 : PySem.W.nsIn K mainGlobals "_law_few" = some (some (.ref f18))) (l18 : K.lookup f18 = some ⟨oc18, od18, .func (PySem.W.fnOf "_law_few" "_law_few" (defArgs s_law_few) (defBody s_law_few) (defScope s_law_few) .none kV18 dc18 pm18 an18 cd18 ct18), sl18⟩) (c18 : PySem.W.codeIn K cd18 "_law_few" = true) (k18 : PySem.W.keepIn K (.ref f18) = true)
    (a19 : PySem.W.nsIn K mainGlobals "law" = some (some (.ref f19))) (l19 : K.lookup f19 = some ⟨oc19, od19, .func (PySem.W.fnOf "law" "law" (defArgs s_law) (defBody s_law) (defScope s_law) .none kV19 dc19 pm19 an19 cd19 ct19), sl19⟩) (c19 : PySem.W.codeIn K cd19 "law" = true) (k19 : PySem.W.keepIn K (.ref f19) = true)
    {tk_MOST_FIGURES : Tok}
    {C_WheelError C_BadWheels C_BadSetting C_BadNumber C_NoRing C_BadText : Addr}
    (gc_WheelError : PySem.W.nsIn K mainGlobals "WheelError" = some (some (.ref C_WheelError)))
    (kc_WheelError : PySem.W.keepIn K (.ref C_WheelError) = true)
    (xc_WheelError : PySem.W.excIn K C_WheelError [.type "ValueError", .type "Exception", .type "BaseException", .type "object"] "ValueError.__new__" = true)
    (sc_WheelError : PySem.W.subIn K (.ref C_WheelError) (.type "BaseException") = some true)
    (tc_WheelError : PySem.W.typeIn K (.ref C_WheelError) = some (.type "type"))
    (e1_WheelError : PySem.W.findIn K (.ref C_WheelError) "__getattribute__" = some (some (.builtin "BaseException.__getattribute__")))
    (e2_WheelError : PySem.W.findIn K (.ref C_WheelError) "__getattr__" = some none)
    (e4_WheelError : PySem.W.hasDictIn K C_WheelError = true)
    (e5_WheelError : PySem.W.findIn K (.ref C_WheelError) "__class__" = some (some (.builtin "object.__class__")))
    (e6_WheelError : PySem.W.specialIn K (.builtin "object.__class__") "__get__" = some (some (.builtin "getset_descriptor.__get__")))
    (e7_WheelError : PySem.W.takesIn K (.builtin "object.__class__") = some true)
    (e8_WheelError : PySem.W.mroIn K C_WheelError (.type "object") = some true)
    (gc_BadWheels : PySem.W.nsIn K mainGlobals "BadWheels" = some (some (.ref C_BadWheels)))
    (kc_BadWheels : PySem.W.keepIn K (.ref C_BadWheels) = true)
    (xc_BadWheels : PySem.W.excIn K C_BadWheels [.type "ValueError", .type "Exception", .type "BaseException", .type "object"] "ValueError.__new__" = true)
    (sc_BadWheels : PySem.W.subIn K (.ref C_BadWheels) (.type "BaseException") = some true)
    (tc_BadWheels : PySem.W.typeIn K (.ref C_BadWheels) = some (.type "type"))
    (e1_BadWheels : PySem.W.findIn K (.ref C_BadWheels) "__getattribute__" = some (some (.builtin "BaseException.__getattribute__")))
    (e2_BadWheels : PySem.W.findIn K (.ref C_BadWheels) "__getattr__" = some none)
    (e4_BadWheels : PySem.W.hasDictIn K C_BadWheels = true)
    (e5_BadWheels : PySem.W.findIn K (.ref C_BadWheels) "__class__" = some (some (.builtin "object.__class__")))
    (e6_BadWheels : PySem.W.specialIn K (.builtin "object.__class__") "__get__" = some (some (.builtin "getset_descriptor.__get__")))
    (e7_BadWheels : PySem.W.takesIn K (.builtin "object.__class__") = some true)
    (e8_BadWheels : PySem.W.mroIn K C_BadWheels (.type "object") = some true)
    (gc_BadSetting : PySem.W.nsIn K mainGlobals "BadSetting" = some (some (.ref C_BadSetting)))
    (kc_BadSetting : PySem.W.keepIn K (.ref C_BadSetting) = true)
    (xc_BadSetting : PySem.W.excIn K C_BadSetting [.type "ValueError", .type "Exception", .type "BaseException", .type "object"] "ValueError.__new__" = true)
    (sc_BadSetting : PySem.W.subIn K (.ref C_BadSetting) (.type "BaseException") = some true)
    (tc_BadSetting : PySem.W.typeIn K (.ref C_BadSetting) = some (.type "type"))
    (e1_BadSetting : PySem.W.findIn K (.ref C_BadSetting) "__getattribute__" = some (some (.builtin "BaseException.__getattribute__")))
    (e2_BadSetting : PySem.W.findIn K (.ref C_BadSetting) "__getattr__" = some none)
    (e4_BadSetting : PySem.W.hasDictIn K C_BadSetting = true)
    (e5_BadSetting : PySem.W.findIn K (.ref C_BadSetting) "__class__" = some (some (.builtin "object.__class__")))
    (e6_BadSetting : PySem.W.specialIn K (.builtin "object.__class__") "__get__" = some (some (.builtin "getset_descriptor.__get__")))
    (e7_BadSetting : PySem.W.takesIn K (.builtin "object.__class__") = some true)
    (e8_BadSetting : PySem.W.mroIn K C_BadSetting (.type "object") = some true)
    (gc_BadNumber : PySem.W.nsIn K mainGlobals "BadNumber" = some (some (.ref C_BadNumber)))
    (kc_BadNumber : PySem.W.keepIn K (.ref C_BadNumber) = true)
    (xc_BadNumber : PySem.W.excIn K C_BadNumber [.type "ValueError", .type "Exception", .type "BaseException", .type "object"] "ValueError.__new__" = true)
    (sc_BadNumber : PySem.W.subIn K (.ref C_BadNumber) (.type "BaseException") = some true)
    (tc_BadNumber : PySem.W.typeIn K (.ref C_BadNumber) = some (.type "type"))
    (e1_BadNumber : PySem.W.findIn K (.ref C_BadNumber) "__getattribute__" = some (some (.builtin "BaseException.__getattribute__")))
    (e2_BadNumber : PySem.W.findIn K (.ref C_BadNumber) "__getattr__" = some none)
    (e4_BadNumber : PySem.W.hasDictIn K C_BadNumber = true)
    (e5_BadNumber : PySem.W.findIn K (.ref C_BadNumber) "__class__" = some (some (.builtin "object.__class__")))
    (e6_BadNumber : PySem.W.specialIn K (.builtin "object.__class__") "__get__" = some (some (.builtin "getset_descriptor.__get__")))
    (e7_BadNumber : PySem.W.takesIn K (.builtin "object.__class__") = some true)
    (e8_BadNumber : PySem.W.mroIn K C_BadNumber (.type "object") = some true)
    (gc_NoRing : PySem.W.nsIn K mainGlobals "NoRing" = some (some (.ref C_NoRing)))
    (kc_NoRing : PySem.W.keepIn K (.ref C_NoRing) = true)
    (xc_NoRing : PySem.W.excIn K C_NoRing [.type "ValueError", .type "Exception", .type "BaseException", .type "object"] "ValueError.__new__" = true)
    (sc_NoRing : PySem.W.subIn K (.ref C_NoRing) (.type "BaseException") = some true)
    (tc_NoRing : PySem.W.typeIn K (.ref C_NoRing) = some (.type "type"))
    (e1_NoRing : PySem.W.findIn K (.ref C_NoRing) "__getattribute__" = some (some (.builtin "BaseException.__getattribute__")))
    (e2_NoRing : PySem.W.findIn K (.ref C_NoRing) "__getattr__" = some none)
    (e4_NoRing : PySem.W.hasDictIn K C_NoRing = true)
    (e5_NoRing : PySem.W.findIn K (.ref C_NoRing) "__class__" = some (some (.builtin "object.__class__")))
    (e6_NoRing : PySem.W.specialIn K (.builtin "object.__class__") "__get__" = some (some (.builtin "getset_descriptor.__get__")))
    (e7_NoRing : PySem.W.takesIn K (.builtin "object.__class__") = some true)
    (e8_NoRing : PySem.W.mroIn K C_NoRing (.type "object") = some true)
    (gc_BadText : PySem.W.nsIn K mainGlobals "BadText" = some (some (.ref C_BadText)))
    (kc_BadText : PySem.W.keepIn K (.ref C_BadText) = true)
    (xc_BadText : PySem.W.excIn K C_BadText [.type "ValueError", .type "Exception", .type "BaseException", .type "object"] "ValueError.__new__" = true)
    (sc_BadText : PySem.W.subIn K (.ref C_BadText) (.type "BaseException") = some true)
    (tc_BadText : PySem.W.typeIn K (.ref C_BadText) = some (.type "type"))
    (e1_BadText : PySem.W.findIn K (.ref C_BadText) "__getattribute__" = some (some (.builtin "BaseException.__getattribute__")))
    (e2_BadText : PySem.W.findIn K (.ref C_BadText) "__getattr__" = some none)
    (e4_BadText : PySem.W.hasDictIn K C_BadText = true)
    (e5_BadText : PySem.W.findIn K (.ref C_BadText) "__class__" = some (some (.builtin "object.__class__")))
    (e6_BadText : PySem.W.specialIn K (.builtin "object.__class__") "__get__" = some (some (.builtin "getset_descriptor.__get__")))
    (e7_BadText : PySem.W.takesIn K (.builtin "object.__class__") = some true)
    (e8_BadText : PySem.W.mroIn K C_BadText (.type "object") = some true)
    (m1_BadText : PySem.W.kitOne K (.ref C_BadText) (.ref C_BadWheels) = some false)
    (m2_BadText : PySem.W.kitOne K (.ref C_BadText) (.ref C_BadSetting) = some false)
    (m3_BadText : PySem.W.kitOne K (.ref C_BadText) (.ref C_BadNumber) = some false)
    (m4_BadText : PySem.W.kitOne K (.ref C_BadText) (.ref C_NoRing) = some false)
    (m5_BadText : PySem.W.kitOne K (.ref C_BadText) (.ref C_BadText) = some true)
    (m6_BadText : PySem.W.kitOne K (.ref C_BadText) (.type "ValueError") = some true)
    (m7_BadText : PySem.W.exmOne K (.ref C_BadText) (.ref C_WheelError) = some true)
    (kn_MOST_FIGURES : PySem.W.nsIn K mainGlobals "MOST_FIGURES" = some (some (.int 60 tk_MOST_FIGURES)))
    (z_len : PySem.W.nsIn K mainGlobals "len" = some none)
    (z_range : PySem.W.nsIn K mainGlobals "range" = some none)
    (z_zip : PySem.W.nsIn K mainGlobals "zip" = some none)
    (z_reversed : PySem.W.nsIn K mainGlobals "reversed" = some none)
    (z_divmod : PySem.W.nsIn K mainGlobals "divmod" = some none)
    (z_enumerate : PySem.W.nsIn K mainGlobals "enumerate" = some none)
    (z_any : PySem.W.nsIn K mainGlobals "any" = some none)
    (z_all : PySem.W.nsIn K mainGlobals "all" = some none)
    (z_sum : PySem.W.nsIn K mainGlobals "sum" = some none)
    (z_abs : PySem.W.nsIn K mainGlobals "abs" = some none)
    (z_min : PySem.W.nsIn K mainGlobals "min" = some none)
    (z_list : PySem.W.nsIn K mainGlobals "list" = some none)
    (z_int : PySem.W.nsIn K mainGlobals "int" = some none)
    (z_bool : PySem.W.nsIn K mainGlobals "bool" = some none)
    (z_str : PySem.W.nsIn K mainGlobals "str" = some none)
    (z_tuple : PySem.W.nsIn K mainGlobals "tuple" = some none)
    (z_isinstance : PySem.W.nsIn K mainGlobals "isinstance" = some none)
    (z_sorted : PySem.W.nsIn K mainGlobals "sorted" = some none)
    (z_ValueError : PySem.W.nsIn K mainGlobals "ValueError" = some none)
    : ∃ fd : FuncData, (∀ (s : Shared) (v : Value), BindsTo s fd ⟨[v], []⟩ [("_law_script", v)]) ∧ ∀ base : Heap, K.In base → base.Ns mainGlobals mg → FnOk l.prog w K mg base CX0 15 fa fd ["_law_script"] (sp_law K) := by
  have e := hfa.symm.trans (PySem.W.mg_of X G a19)
  cases e
  have B : Bi mg := ⟨PySem.W.mg_none_of X G z_len, PySem.W.mg_none_of X G z_range, PySem.W.mg_none_of X G z_zip, PySem.W.mg_none_of X G z_reversed, PySem.W.mg_none_of X G z_divmod, PySem.W.mg_none_of X G z_enumerate, PySem.W.mg_none_of X G z_any, PySem.W.mg_none_of X G z_all, PySem.W.mg_none_of X G z_sum, PySem.W.mg_none_of X G z_abs, PySem.W.mg_none_of X G z_min, PySem.W.mg_none_of X G z_list, PySem.W.mg_none_of X G z_int, PySem.W.mg_none_of X G z_bool, PySem.W.mg_none_of X G z_str, PySem.W.mg_none_of X G z_tuple, PySem.W.mg_none_of X G z_isinstance, PySem.W.mg_none_of X G z_sorted⟩
  have T_WheelError : Err K mg "WheelError" C_WheelError := ⟨PySem.W.mg_of X G gc_WheelError, kc_WheelError, xc_WheelError, sc_WheelError, tc_WheelError, ⟨e1_WheelError, e2_WheelError, sc_WheelError, e4_WheelError, e5_WheelError, e6_WheelError, e7_WheelError, e8_WheelError⟩⟩
  have T_BadWheels : Err K mg "BadWheels" C_BadWheels := ⟨PySem.W.mg_of X G gc_BadWheels, kc_BadWheels, xc_BadWheels, sc_BadWheels, tc_BadWheels, ⟨e1_BadWheels, e2_BadWheels, sc_BadWheels, e4_BadWheels, e5_BadWheels, e6_BadWheels, e7_BadWheels, e8_BadWheels⟩⟩
  have T_BadSetting : Err K mg "BadSetting" C_BadSetting := ⟨PySem.W.mg_of X G gc_BadSetting, kc_BadSetting, xc_BadSetting, sc_BadSetting, tc_BadSetting, ⟨e1_BadSetting, e2_BadSetting, sc_BadSetting, e4_BadSetting, e5_BadSetting, e6_BadSetting, e7_BadSetting, e8_BadSetting⟩⟩
  have T_BadNumber : Err K mg "BadNumber" C_BadNumber := ⟨PySem.W.mg_of X G gc_BadNumber, kc_BadNumber, xc_BadNumber, sc_BadNumber, tc_BadNumber, ⟨e1_BadNumber, e2_BadNumber, sc_BadNumber, e4_BadNumber, e5_BadNumber, e6_BadNumber, e7_BadNumber, e8_BadNumber⟩⟩
  have T_NoRing : Err K mg "NoRing" C_NoRing := ⟨PySem.W.mg_of X G gc_NoRing, kc_NoRing, xc_NoRing, sc_NoRing, tc_NoRing, ⟨e1_NoRing, e2_NoRing, sc_NoRing, e4_NoRing, e5_NoRing, e6_NoRing, e7_NoRing, e8_NoRing⟩⟩
  have T_BadText : Err K mg "BadText" C_BadText := ⟨PySem.W.mg_of X G gc_BadText, kc_BadText, xc_BadText, sc_BadText, tc_BadText, ⟨e1_BadText, e2_BadText, sc_BadText, e4_BadText, e5_BadText, e6_BadText, e7_BadText, e8_BadText⟩⟩
  have c_MOST_FIGURES : ∃ t, mg "MOST_FIGURES" = some (.int 60 t) := ⟨_, PySem.W.mg_of X G kn_MOST_FIGURES⟩
  have n_ValueError := PySem.W.mg_none_of X G z_ValueError
  have F1 := fun_mk (st := s_is_whole) l1 c1 k1
  have D_is_whole : Df K mg "is_whole" s_is_whole ["thing"] := ⟨_, _, F1, PySem.W.mg_of X G a1, F1.binds (ps := ["thing"]) fun _ _ _ _ _ _ us hl => match us, hl with | [_], _ => rfl⟩
  have F2 := fun_mk (st := s_check_wheels) l2 c2 k2
  have D_check_wheels : Df K mg "check_wheels" s_check_wheels ["wheels"] := ⟨_, _, F2, PySem.W.mg_of X G a2, F2.binds (ps := ["wheels"]) fun _ _ _ _ _ _ us hl => match us, hl with | [_], _ => rfl⟩
  have F3 := fun_mk (st := s_is_setting) l3 c3 k3
  have D_is_setting : Df K mg "is_setting" s_is_setting ["wheels", "setting"] := ⟨_, _, F3, PySem.W.mg_of X G a3, F3.binds (ps := ["wheels", "setting"]) fun _ _ _ _ _ _ us hl => match us, hl with | [_, _], _ => rfl⟩
  have F4 := fun_mk (st := s_check_setting) l4 c4 k4
  have D_check_setting : Df K mg "check_setting" s_check_setting ["wheels", "setting"] := ⟨_, _, F4, PySem.W.mg_of X G a4, F4.binds (ps := ["wheels", "setting"]) fun _ _ _ _ _ _ us hl => match us, hl with | [_, _], _ => rfl⟩
  have F5 := fun_mk (st := s_written) l5 c5 k5
  have D_written : Df K mg "written" s_written ["wheels", "setting"] := ⟨_, _, F5, PySem.W.mg_of X G a5, F5.binds (ps := ["wheels", "setting"]) fun _ _ _ _ _ _ us hl => match us, hl with | [_, _], _ => rfl⟩
  have F6 := fun_mk (st := s_read) l6 c6 k6
  have D_read : Df K mg "read" s_read ["text"] := ⟨_, _, F6, PySem.W.mg_of X G a6, F6.binds (ps := ["text"]) fun _ _ _ _ _ _ us hl => match us, hl with | [_], _ => rfl⟩
  have F7 := fun_mk (st := s_numbers) l7 c7 k7
  have D_numbers : Df K mg "_numbers" s_numbers ["text"] := ⟨_, _, F7, PySem.W.mg_of X G a7, F7.binds (ps := ["text"]) fun _ _ _ _ _ _ us hl => match us, hl with | [_], _ => rfl⟩
  have F8 := fun_mk (st := s_number) l8 c8 k8
  have D_number : Df K mg "_number" s_number ["word"] := ⟨_, _, F8, PySem.W.mg_of X G a8, F8.binds (ps := ["word"]) fun _ _ _ _ _ _ us hl => match us, hl with | [_], _ => rfl⟩
  have F9 := fun_mk (st := s_law_cell_at) l9 c9 k9
  have D_law_cell_at : Df K mg "_law_cell_at" s_law_cell_at ["_law_script", "_law_k"] := ⟨_, _, F9, PySem.W.mg_of X G a9, F9.binds (ps := ["_law_script", "_law_k"]) fun _ _ _ _ _ _ us hl => match us, hl with | [_, _], _ => rfl⟩
  have F10 := fun_mk (st := s_law_draw) l10 c10 k10
  have D_law_draw : Df K mg "_law_draw" s_law_draw ["_law_cell", "_law_k", "_law_many"] := ⟨_, _, F10, PySem.W.mg_of X G a10, F10.binds (ps := ["_law_cell", "_law_k", "_law_many"]) fun _ _ _ _ _ _ us hl => match us, hl with | [_, _, _], _ => rfl⟩
  have F11 := fun_mk (st := s_law_wheels) l11 c11 k11
  have D_law_wheels : Df K mg "_law_wheels" s_law_wheels ["_law_script"] := ⟨_, _, F11, PySem.W.mg_of X G a11, F11.binds (ps := ["_law_script"]) fun _ _ _ _ _ _ us hl => match us, hl with | [_], _ => rfl⟩
  have F12 := fun_mk (st := s_law_setting) l12 c12 k12
  have D_law_setting : Df K mg "_law_setting" s_law_setting ["_law_script", "_law_wheels_here", "_law_by"] := ⟨_, _, F12, PySem.W.mg_of X G a12, F12.binds (ps := ["_law_script", "_law_wheels_here", "_law_by"]) fun _ _ _ _ _ _ us hl => match us, hl with | [_, _, _], _ => rfl⟩
  have F13 := fun_mk (st := s_law_is_setting) l13 c13 k13
  have D_law_is_setting : Df K mg "_law_is_setting" s_law_is_setting ["_law_wheels_here", "_law_found"] := ⟨_, _, F13, PySem.W.mg_of X G a13, F13.binds (ps := ["_law_wheels_here", "_law_found"]) fun _ _ _ _ _ _ us hl => match us, hl with | [_, _], _ => rfl⟩
  have F14 := fun_mk (st := s_law_number) l14 c14 k14
  have D_law_number : Df K mg "_law_number" s_law_number ["_law_text"] := ⟨_, _, F14, PySem.W.mg_of X G a14, F14.binds (ps := ["_law_text"]) fun _ _ _ _ _ _ us hl => match us, hl with | [_], _ => rfl⟩
  have F15 := fun_mk (st := s_law_in) l15 c15 k15
  have D_law_in : Df K mg "_law_in" s_law_in ["_law_text"] := ⟨_, _, F15, PySem.W.mg_of X G a15, F15.binds (ps := ["_law_text"]) fun _ _ _ _ _ _ us hl => match us, hl with | [_], _ => rfl⟩
  have F16 := fun_mk (st := s_law_refused) l16 c16 k16
  have D_law_refused : Df K mg "_law_refused" s_law_refused ["_law_text"] := ⟨_, _, F16, PySem.W.mg_of X G a16, F16.binds (ps := ["_law_text"]) fun _ _ _ _ _ _ us hl => match us, hl with | [_], _ => rfl⟩
  have F17 := fun_mk (st := s_law_right) l17 c17 k17
  have D_law_right : Df K mg "_law_right" s_law_right ["_law_text"] := ⟨_, _, F17, PySem.W.mg_of X G a17, F17.binds (ps := ["_law_text"]) fun _ _ _ _ _ _ us hl => match us, hl with | [_], _ => rfl⟩
  have F18 := fun_mk (st := s_law_few) l18 c18 k18
  have D_law_few : Df K mg "_law_few" s_law_few [] := ⟨_, _, F18, PySem.W.mg_of X G a18, F18.binds (ps := []) fun _ _ _ _ _ _ us hl => match us, hl with | [], _ => rfl⟩
  have F19 := fun_mk (st := s_law) l19 c19 k19
  have D_law : At K mg "law" s_law ["_law_script"] _ _ := ⟨F19, PySem.W.mg_of X G a19, F19.binds (ps := ["_law_script"]) fun _ _ _ _ _ _ us hl => match us, hl with | [_], _ => rfl⟩
  refine ⟨PySem.W.fnOf "law" "law" (defArgs s_law) (defBody s_law) (defScope s_law) .none kV19 dc19 pm19 an19 cd19 ct19, fun s v => .of_eq rfl, fun base _ _ => ?_⟩
  have G_is_whole := ok_is_whole (P := l.prog) (w := w) (base := base) D_is_whole B
  have G_check_wheels := ok_check_wheels (P := l.prog) (w := w) (base := base) D_check_wheels B G_is_whole
  have G_is_setting := ok_is_set (P := l.prog) (w := w) (base := base) D_is_setting B G_is_whole
  have G_check_setting := ok_check_setting (P := l.prog) (w := w) (base := base) D_check_setting G_is_setting
  have G_written := ok_written D_written B G_check_wheels G_check_setting
  have X_number := x_number (P := l.prog) (w := w) (base := base) D_number B T_BadText c_MOST_FIGURES
  have X_numbers := x_numbers D_numbers B T_BadText X_number
  have X_read := x_read D_read B T_BadText X_numbers G_is_setting
  have O : OnlyT K C_BadText C_BadWheels C_BadSetting C_BadNumber C_NoRing C_BadText C_WheelError := ⟨T_BadText.C, m1_BadText, m2_BadText, m3_BadText, m4_BadText, m5_BadText, m6_BadText, m7_BadText⟩
  have G_law_cell_at := ok_cell_at (P := l.prog) (w := w) (base := base) D_law_cell_at B
  have G_law_draw := ok_draw (P := l.prog) (w := w) (base := base) D_law_draw B
  have G_law_wheels := ok_wheels (P := l.prog) (w := w) (base := base) D_law_wheels B G_law_cell_at G_law_draw
  have G_law_setting := ok_setting (P := l.prog) (w := w) (base := base) D_law_setting B G_law_cell_at G_law_draw
  have G_law_is_setting := ok_is_setting (P := l.prog) (w := w) (base := base) D_law_is_setting B
  have G_law_number := ok_lnumber (P := l.prog) (w := w) (K := K) (base := base) D_law_number B
  have G_law_in := ok_lin D_law_in B G_law_number G_law_is_setting
  have G_law_refused := ok_refused5 D_law_refused B n_ValueError O T_WheelError T_BadWheels T_BadSetting T_BadNumber T_NoRing T_BadText (bad_read X_read)
  have G_law_right := ok_right5 D_law_right B G_law_in G_law_refused X_read G_written
  have G_law_few := ok_few (P := l.prog) (w := w) (base := base) (K := K) D_law_few B
  exact ok_law D_law B G_law_cell_at G_law_draw G_law_wheels G_law_setting G_written G_law_refused G_law_right G_law_few
end Ww
open PySem PySem.W PyProof.Rows
set_option maxHeartbeats 0 in
theorem PySem.Challenge.cw_wheelways_k05_written_holds : PySem.Challenge.rw_wheelways_k05_written.Holds := by
  w_on; o_law; k_head; (case hw => w_witness2)
  k_fill
  refine L2.walk_of (l := PySem.Challenge.rw_wheelways_k05_written) (n := 63) (k := 15) (x := "_law_script") (CX := fun _ => L2.CX0) (sp := fun w => Ww.sp_law _) rfl (by decide) rfl ⟨rfl, by decide, by decide⟩ (fun w h Y => PySem.W.kIn_of Y) ?F (fun _ _ a ns hl _ hS => ⟨a, ns, rfl, hS, hl, fun _ => rfl⟩) (fun _ _ _ _ _ h => h)
  case F =>
    intro w mg fa h KX G hmg
    refine' Ww.all_mk KX G hmg ?a1 ?l1 ?c1 ?k1 ?a2 ?l2 ?c2 ?k2 ?a3 ?l3 ?c3 ?k3 ?a4 ?l4 ?c4 ?k4 ?a5 ?l5 ?c5 ?k5 ?a6 ?l6 ?c6 ?k6 ?a7 ?l7 ?c7 ?k7 ?a8 ?l8 ?c8 ?k8 ?a9 ?l9 ?c9 ?k9 ?a10 ?l10 ?c10 ?k10 ?a11 ?l11 ?c11 ?k11 ?a12 ?l12 ?c12 ?k12 ?a13 ?l13 ?c13 ?k13 ?a14 ?l14 ?c14 ?k14 ?a15 ?l15 ?c15 ?k15 ?a16 ?l16 ?c16 ?k16 ?a17 ?l17 ?c17 ?k17 ?a18 ?l18 ?c18 ?k18 ?a19 ?l19 ?c19 ?k19 ?gc_WheelError ?kc_WheelError ?xc_WheelError ?sc_WheelError ?tc_WheelError ?e1_WheelError ?e2_WheelError ?e4_WheelError ?e5_WheelError ?e6_WheelError ?e7_WheelError ?e8_WheelError ?gc_BadWheels ?kc_BadWheels ?xc_BadWheels ?sc_BadWheels ?tc_BadWheels ?e1_BadWheels ?e2_BadWheels ?e4_BadWheels ?e5_BadWheels ?e6_BadWheels ?e7_BadWheels ?e8_BadWheels ?gc_BadSetting ?kc_BadSetting ?xc_BadSetting ?sc_BadSetting ?tc_BadSetting ?e1_BadSetting ?e2_BadSetting ?e4_BadSetting ?e5_BadSetting ?e6_BadSetting ?e7_BadSetting ?e8_BadSetting ?gc_BadNumber ?kc_BadNumber ?xc_BadNumber ?sc_BadNumber ?tc_BadNumber ?e1_BadNumber ?e2_BadNumber ?e4_BadNumber ?e5_BadNumber ?e6_BadNumber ?e7_BadNumber ?e8_BadNumber ?gc_NoRing ?kc_NoRing ?xc_NoRing ?sc_NoRing ?tc_NoRing ?e1_NoRing ?e2_NoRing ?e4_NoRing ?e5_NoRing ?e6_NoRing ?e7_NoRing ?e8_NoRing ?gc_BadText ?kc_BadText ?xc_BadText ?sc_BadText ?tc_BadText ?e1_BadText ?e2_BadText ?e4_BadText ?e5_BadText ?e6_BadText ?e7_BadText ?e8_BadText ?m1_BadText ?m2_BadText ?m3_BadText ?m4_BadText ?m5_BadText ?m6_BadText ?m7_BadText ?kn_MOST_FIGURES ?z_len ?z_range ?z_zip ?z_reversed ?z_divmod ?z_enumerate ?z_any ?z_all ?z_sum ?z_abs ?z_min ?z_list ?z_int ?z_bool ?z_str ?z_tuple ?z_isinstance ?z_sorted ?z_ValueError
    (case a1 => k_is)
    (case l1 => k_is)
    (case c1 => k_is)
    (case k1 => k_is)
    (case a2 => k_is)
    (case l2 => k_is)
    (case c2 => k_is)
    (case k2 => k_is)
    (case a3 => k_is)
    (case l3 => k_is)
    (case c3 => k_is)
    (case k3 => k_is)
    (case a4 => k_is)
    (case l4 => k_is)
    (case c4 => k_is)
    (case k4 => k_is)
    (case a5 => k_is)
    (case l5 => k_is)
    (case c5 => k_is)
    (case k5 => k_is)
    (case a6 => k_is)
    (case l6 => k_is)
    (case c6 => k_is)
    (case k6 => k_is)
    (case a7 => k_is)
    (case l7 => k_is)
    (case c7 => k_is)
    (case k7 => k_is)
    (case a8 => k_is)
    (case l8 => k_is)
    (case c8 => k_is)
    (case k8 => k_is)
    (case a9 => k_is)
    (case l9 => k_is)
    (case c9 => k_is)
    (case k9 => k_is)
    (case a10 => k_is)
    (case l10 => k_is)
    (case c10 => k_is)
    (case k10 => k_is)
    (case a11 => k_is)
    (case l11 => k_is)
    (case c11 => k_is)
    (case k11 => k_is)
    (case a12 => k_is)
    (case l12 => k_is)
    (case c12 => k_is)
    (case k12 => k_is)
    (case a13 => k_is)
    (case l13 => k_is)
    (case c13 => k_is)
    (case k13 => k_is)
    (case a14 => k_is)
    (case l14 => k_is)
    (case c14 => k_is)
    (case k14 => k_is)
    (case a15 => k_is)
    (case l15 => k_is)
    (case c15 => k_is)
    (case k15 => k_is)
    (case a16 => k_is)
    (case l16 => k_is)
    (case c16 => k_is)
    (case k16 => k_is)
    (case a17 => k_is)
    (case l17 => k_is)
    (case c17 => k_is)
    (case k17 => k_is)
    (case a18 => k_is)
    (case l18 => k_is)
    (case c18 => k_is)
    (case k18 => k_is)
    (case a19 => k_is)
    (case l19 => k_is)
    (case c19 => k_is)
    (case k19 => k_is)
    (case gc_WheelError => k_is)
    (case kc_WheelError => k_is)
    (case xc_WheelError => k_exc)
    (case sc_WheelError => k_is)
    (case tc_WheelError => k_is)
    (case e1_WheelError => k_is)
    (case e2_WheelError => k_is)
    (case e4_WheelError => k_is)
    (case e5_WheelError => k_is)
    (case e6_WheelError => k_is)
    (case e7_WheelError => k_is)
    (case e8_WheelError => k_is)
    (case gc_BadWheels => k_is)
    (case kc_BadWheels => k_is)
    (case xc_BadWheels => k_exc)
    (case sc_BadWheels => k_is)
    (case tc_BadWheels => k_is)
    (case e1_BadWheels => k_is)
    (case e2_BadWheels => k_is)
    (case e4_BadWheels => k_is)
    (case e5_BadWheels => k_is)
    (case e6_BadWheels => k_is)
    (case e7_BadWheels => k_is)
    (case e8_BadWheels => k_is)
    (case gc_BadSetting => k_is)
    (case kc_BadSetting => k_is)
    (case xc_BadSetting => k_exc)
    (case sc_BadSetting => k_is)
    (case tc_BadSetting => k_is)
    (case e1_BadSetting => k_is)
    (case e2_BadSetting => k_is)
    (case e4_BadSetting => k_is)
    (case e5_BadSetting => k_is)
    (case e6_BadSetting => k_is)
    (case e7_BadSetting => k_is)
    (case e8_BadSetting => k_is)
    (case gc_BadNumber => k_is)
    (case kc_BadNumber => k_is)
    (case xc_BadNumber => k_exc)
    (case sc_BadNumber => k_is)
    (case tc_BadNumber => k_is)
    (case e1_BadNumber => k_is)
    (case e2_BadNumber => k_is)
    (case e4_BadNumber => k_is)
    (case e5_BadNumber => k_is)
    (case e6_BadNumber => k_is)
    (case e7_BadNumber => k_is)
    (case e8_BadNumber => k_is)
    (case gc_NoRing => k_is)
    (case kc_NoRing => k_is)
    (case xc_NoRing => k_exc)
    (case sc_NoRing => k_is)
    (case tc_NoRing => k_is)
    (case e1_NoRing => k_is)
    (case e2_NoRing => k_is)
    (case e4_NoRing => k_is)
    (case e5_NoRing => k_is)
    (case e6_NoRing => k_is)
    (case e7_NoRing => k_is)
    (case e8_NoRing => k_is)
    (case gc_BadText => k_is)
    (case kc_BadText => k_is)
    (case xc_BadText => k_exc)
    (case sc_BadText => k_is)
    (case tc_BadText => k_is)
    (case e1_BadText => k_is)
    (case e2_BadText => k_is)
    (case e4_BadText => k_is)
    (case e5_BadText => k_is)
    (case e6_BadText => k_is)
    (case e7_BadText => k_is)
    (case e8_BadText => k_is)
    (case m1_BadText => kit_is)
    (case m2_BadText => kit_is)
    (case m3_BadText => kit_is)
    (case m4_BadText => kit_is)
    (case m5_BadText => kit_is)
    (case m6_BadText => kit_is)
    (case m7_BadText => kts_exm)
    (case kn_MOST_FIGURES => k_is)
    (case z_len => k_is)
    (case z_range => k_is)
    (case z_zip => k_is)
    (case z_reversed => k_is)
    (case z_divmod => k_is)
    (case z_enumerate => k_is)
    (case z_any => k_is)
    (case z_all => k_is)
    (case z_sum => k_is)
    (case z_abs => k_is)
    (case z_min => k_is)
    (case z_list => k_is)
    (case z_int => k_is)
    (case z_bool => k_is)
    (case z_str => k_is)
    (case z_tuple => k_is)
    (case z_isinstance => k_is)
    (case z_sorted => k_is)
    (case z_ValueError => k_is)
#print axioms PySem.Challenge.cw_wheelways_k05_written_holds
