package file

import "wapentake/api"

// made tells whether a call of this package made f.
func (f *Files) made() bool { return f != nil && f.files != nil }

// works answers why the disk takes no step at all, or OK.
func (f *Files) works() api.Errno {
	if !f.made() {
		return api.ErrState
	}
	if f.dead {
		return api.ErrDead
	}
	return api.OK
}

// look is the file itself; nil, if there is none.
func (f *Files) look(name string) *content {
	if !f.made() {
		return nil
	}
	return f.files[name]
}

// find is the file upon which a step is to be taken, or why none can be.
func (f *Files) find(name string) (*content, api.Errno) {
	if e := f.works(); e != api.OK {
		return nil, e
	}
	c := f.look(name)
	if c == nil {
		return nil, api.ErrNone
	}
	return c, api.OK
}

// do takes a step, unless e refuses it, and acts, unless the disk dies at it.
func (f *Files) do(e api.Errno, act func()) api.Errno {
	if e == api.OK {
		e = f.step()
	}
	if e == api.OK {
		act()
	}
	return e
}

// step counts a step, and answers ErrDead, if the disk dies at it.
func (f *Files) step() api.Errno {
	f.steps++
	if f.fuse == 0 {
		f.dead = true
		return api.ErrDead
	}
	if f.fuse > 0 {
		f.fuse--
	}
	return api.OK
}

// isName tells whether a file may be called so.
func isName(name string) bool { return name != "" && len(name) <= api.MaxPart }
