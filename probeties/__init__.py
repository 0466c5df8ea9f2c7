"""Probeties: broken ties of a net, found by probes from its rim."""
