// Package conn is layer 21: an end of a connection: see shared/doc/21-conn.md.
package conn

import (
	"wigwag/api"
)

// Conn is one end of a connection.
type Conn struct{}

// there refuses a nil end, which the rules ask of every call ahead of all else.
func (c *Conn) there() api.Errno {
	if c == nil {
		return api.ErrArg
	}
	return api.OK
}

// New is an end: a client's, or a server's.
func New(client bool, p api.Params, now uint64) (*Conn, api.Errno) { return nil, api.OK }

// Open opens a stream.
func (c *Conn) Open() (uint64, api.Errno) { return 0, c.there() }

// Write puts bytes into a stream; Finish ends it; Reset gives it up; Stop asks the other end to.
func (c *Conn) Write(id uint64, data []byte) api.Errno { return c.there() }
func (c *Conn) Finish(id uint64) api.Errno             { return c.there() }
func (c *Conn) Reset(id, code uint64) api.Errno        { return c.there() }
func (c *Conn) Stop(id, code uint64) api.Errno         { return c.there() }

// Read takes at most so many bytes of a stream; and whether it is over then.
func (c *Conn) Read(id uint64, n int) ([]byte, bool, api.Errno) { return nil, false, c.there() }

// Streams are the streams that are known.
func (c *Conn) Streams() []uint64 { return nil }

// Recv takes a datagram that came; marked: on its way.
func (c *Conn) Recv(now uint64, b []byte, marked bool) {}

// Send is the datagram to be sent next, if there is one.
func (c *Conn) Send(now uint64) (api.Out, bool) { return api.Out{}, false }

// Tick lets time pass.
func (c *Conn) Tick(now uint64) {}

// Close closes with a code.
func (c *Conn) Close(code uint64) {}

// State is how a connection stands; Code is the code that it was closed with; Window is how many bytes may be under way; Rate is how many a second may go; Quiet tells whether all that was written came.
func (c *Conn) State() int     { return 0 }
func (c *Conn) Code() uint64   { return 0 }
func (c *Conn) Window() uint64 { return 0 }
func (c *Conn) Rate() uint64   { return 0 }
func (c *Conn) Quiet() bool    { return false }
