"""Weirwatch: basins held whatever rain falls, and towns served in turn."""
