"""Notinvain: an engine by need whose answers nobody knows, and which of its calls are for nothing."""
