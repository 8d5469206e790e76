"""What a machine can still reach."""

from hornmill.states import State, demand_choice, engine_at_clause


def is_at_clause(machine):
    """Tell whether the next thing that a machine does is the first instruction of a clause."""
    return machine.engine.word == "run" and machine.engine.line == 0


def frames_behind(machine, i):
    """Return what frames() would return after failing to choice point i."""
    engine = engine_at_clause(machine)
    demand_choice(engine, i)
    return State(engine, i).rows


def reached(machine, i):
    """Return the list of the addresses that are reached in the state behind choice point i, or now for None."""
    engine = engine_at_clause(machine)
    if i is not None:
        demand_choice(engine, i)
    return sorted(State(engine, i).reached())
