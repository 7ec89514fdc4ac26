package machine

import "sluice/api"

func (m *machine) push(value int) {
	if m.height < 0 || m.height >= api.MaxStack {
		return
	}
	m.stack[m.height] = value
	m.height++
}

func (m *machine) pop() int {
	if m.height <= 0 || m.height > api.MaxStack {
		return 0
	}
	m.height--
	return m.stack[m.height]
}

func (m *machine) load(variable int) {
	if variable < 0 || variable >= api.MaxVars {
		return
	}
	value := m.vars[variable]
	m.push(value)
}

func (m *machine) store(variable int) {
	if variable < 0 || variable >= api.MaxVars {
		return
	}
	value := m.pop()
	m.vars[variable] = value
}

// read pushes the next value of a tape; 0, if there is none left.
func (m *machine) read(level int) {
	if level < 0 || level >= api.MaxLevels {
		return
	}
	tape := m.tapes[level]
	next := m.taken[level]
	if next < 0 || next >= len(tape) {
		m.push(0)
		return
	}
	m.taken[level] = next + 1
	value := int(tape[next])
	m.push(value)
}

func (m *machine) write(level int) {
	if level < 0 || level >= api.MaxLevels {
		return
	}
	value := m.pop()
	m.logs[level] = append(m.logs[level], byte(value))
}

func (m *machine) allLogs() api.Tapes {
	logs := api.Tapes{}
	for level := 0; level < api.MaxLevels; level++ {
		logs[level] = string(m.logs[level])
	}
	return logs
}

// allVars tells what each variable of the file holds, a byte each.
func (m *machine) allVars() string {
	info := m.file.Info()
	held := []byte{}
	for variable := 0; variable < info.Vars && variable < api.MaxVars; variable++ {
		held = append(held, byte(m.vars[variable]))
	}
	return string(held)
}
