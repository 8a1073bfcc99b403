package walk

import "metronome/api"

// Steps are what to do on the way through a block and the blocks in it. What is nil is left out.
type Steps struct {
	Enter func(b *api.Block) error           // at a block, ahead of its equations
	Begin func(q *api.Equation) error        // at an equation, ahead of its arms
	Arm   func(q *api.Equation, i int) error // at an arm, ahead of its block
	Exit  func(q *api.Equation, i int) error // behind the equations of the arm's block, ahead of its Leave
	Leave func(b *api.Block) error           // behind the equations of a block
	End   func(q *api.Equation) error        // behind the arms of an equation
}

// inside is a block that has been entered: how many of its equations have been begun, the one among them that has not been ended, and how many of its arms are done.
type inside struct {
	b     *api.Block
	begun int
	q     *api.Equation
	done  int
}

// Block goes through a block in the order of its text, up to the first error.
func Block(b *api.Block, s Steps) error {
	if err := do(s.Enter, b); err != nil {
		return err
	}
	stack := []inside{{b: b}}
	for len(stack) > 0 {
		top := &stack[len(stack)-1]
		if top.q != nil && top.done < len(Arms(top.q)) {
			b := &top.q.Arms[top.done].B
			if err := enter(top, b, &s); err != nil {
				return err
			}
			stack = append(stack, inside{b: b})
			continue
		}
		if top.q != nil || top.begun < len(top.b.Eqs) {
			if err := onward(top, &s); err != nil {
				return err
			}
			continue
		}
		stack = stack[:len(stack)-1]
		if err := leave(stack, top.b, &s); err != nil {
			return err
		}
	}
	return nil
}

// Arms are those of an equation of a kind that has some.
func Arms(q *api.Equation) []api.Arm {
	if q.Kind == api.QDef || q.Kind == api.QCall {
		return nil
	}
	return q.Arms
}

// enter takes the steps into the block of the next arm.
func enter(in *inside, b *api.Block, s *Steps) error {
	if err := doArm(s.Arm, in); err != nil {
		return err
	}
	return do(s.Enter, b)
}

// onward ends the equation that has been begun, or begins the next one.
func onward(in *inside, s *Steps) error {
	if q := in.q; q != nil {
		in.q = nil
		return do(s.End, q)
	}
	in.q, in.done = &in.b.Eqs[in.begun], 0
	in.begun++
	return do(s.Begin, in.q)
}

// leave takes the steps out of a block; around are the blocks that it stands in.
func leave(around []inside, b *api.Block, s *Steps) error {
	if len(around) > 0 {
		in := &around[len(around)-1]
		if err := doArm(s.Exit, in); err != nil {
			return err
		}
		in.done++
	}
	return do(s.Leave, b)
}

func do[T any](step func(T) error, x T) error {
	if step == nil {
		return nil
	}
	return step(x)
}

func doArm(step func(*api.Equation, int) error, in *inside) error {
	if step == nil {
		return nil
	}
	return step(in.q, in.done)
}
