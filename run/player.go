package run

import (
	"math"

	"furrow/api"
	"furrow/fs"
	"furrow/layout"
	"furrow/mount"
	"furrow/pmem"
	"furrow/replay"
)

// play: how a step is played: what it tells, and why it is refused. What is told counts only where nothing is refused.
type play func(s api.Step) (string, error)

// player: what a run has at a time. There is a volume only where there is a device.
type player struct {
	device *pmem.Device // nil: none
	volume *fs.FS       // nil: none
}

// tells: the text of the step at a place of its list.
func (p *player) tells(place int, s api.Step) string {
	if place >= api.MaxSteps {
		return word(api.ErrTooMany)
	}
	text, err := p.plays(s)
	if err != nil {
		return word(err)
	}
	return text
}

func (p *player) plays(s api.Step) (string, error) {
	if s.Kind < api.StepMkfs || s.Kind > api.StepScan {
		return "", api.ErrStepKind
	}
	if own := p.own(s.Kind); own != nil {
		return own(s)
	}
	if p.volume == nil {
		return "", api.ErrNoVolume
	}
	return operation(p.volume, s.Kind)(s)
}

// own: how a step of a kind is played that isn't an operation of a volume: one that gives the run its device or volume, takes it away, or looks at the device's bytes; nil of the other kinds.
func (p *player) own(kind int) play {
	switch kind {
	case api.StepMkfs:
		return p.mkfs
	case api.StepMount:
		return p.mount
	case api.StepUnmount:
		return p.unmount
	case api.StepArm:
		return p.arm
	case api.StepCrash:
		return p.crash
	case api.StepPoke:
		return p.poke
	case api.StepState:
		return p.state
	case api.StepScan:
		return p.scan
	}
	return nil
}

// noDevice: why a step isn't played that wants a device.
func (p *player) noDevice() error {
	if p.device == nil {
		return api.ErrNoDevice
	}
	return nil
}

// noIdleDevice: why a step isn't played that wants a device without a volume.
func (p *player) noIdleDevice() error {
	if err := p.noDevice(); err != nil {
		return err
	}
	if p.volume != nil {
		return api.ErrMounted
	}
	return nil
}

func (p *player) mkfs(s api.Step) (string, error) {
	if p.volume != nil {
		return "", api.ErrMounted
	}
	super := api.Super{Pages: s.N, Inodes: s.M, Cores: s.K}
	if _, e := layout.Fit(super); e != api.OK {
		return "", e
	}
	if p.device == nil || p.device.Size() != s.N*api.PageSize {
		d, e := pmem.New(s.N * api.PageSize)
		if e != api.OK {
			return "", e
		}
		p.device = d
	}
	return done, fs.Mkfs(p.device, super)
}

func (p *player) mount(s api.Step) (string, error) {
	if err := p.noIdleDevice(); err != nil {
		return "", err
	}
	v, err := fs.Mount(p.device, s.N, s.List)
	if err != nil {
		return "", err
	}
	p.volume = v
	return inWords(done, word(v.Why())), nil
}

func (p *player) unmount(api.Step) (string, error) {
	if p.volume == nil {
		return "", api.ErrNoVolume
	}
	if err := p.volume.Unmount(); err != nil {
		return "", err
	}
	p.volume = nil
	return done, nil
}

func (p *player) arm(s api.Step) (string, error) {
	if err := p.noDevice(); err != nil {
		return "", err
	}
	return done, refusal(p.device.Arm(s.N))
}

func (p *player) crash(s api.Step) (string, error) {
	if err := p.noDevice(); err != nil {
		return "", err
	}
	p.volume = nil
	return done, p.load(p.device.Crash(s.List))
}

func (p *player) poke(s api.Step) (string, error) {
	if err := p.noIdleDevice(); err != nil {
		return "", err
	}
	switch {
	case p.device.Dead():
		return "", api.ErrDead
	case s.N < 0 || s.N >= p.device.Size():
		return "", api.ErrBounds
	case s.M < 0 || s.M > math.MaxUint8:
		return "", api.ErrArg
	}
	image := p.device.View()
	image[s.N] = byte(s.M)
	return done, p.load(image)
}

func (p *player) state(api.Step) (string, error) {
	if err := p.noDevice(); err != nil {
		return "", err
	}
	st, err := replay.Replay(p.device.View())
	return inLines(done, State(st)), err
}

func (p *player) scan(s api.Step) (string, error) {
	if err := p.noDevice(); err != nil {
		return "", err
	}
	st, err := mount.Mount(p.device.View(), s.N, s.List)
	return inLines(done, State(st)), err
}

// load: a new device with these bytes is the device from now on. (A device's own bytes are never refused.)
func (p *player) load(image []byte) error {
	d, e := pmem.Load(image)
	if e != api.OK {
		return e
	}
	p.device = d
	return nil
}

// image: the device's bytes; nil, if there is none.
func (p *player) image() []byte {
	if p.device == nil {
		return nil
	}
	return p.device.View()
}
