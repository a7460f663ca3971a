"""Sensors with two channels: twinsensors.panel.answers(calls) answers a list of calls."""
